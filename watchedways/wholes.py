"""Tables of Ratios, multiplied over a common bottom: lowest terms are sought only once, at the end."""

from math import lcm

from watchedways.ratios import Ratio


def whole_table(table):
    """The tuple of a common bottom of the table and of the rows of what then stands above it."""
    bottom = 1
    for row in table:
        for ratio in row:
            bottom = lcm(bottom, ratio.bottom)
    return (bottom, [[ratio.top * (bottom // ratio.bottom) for ratio in row] for row in table])


def whole_chain(many, tables):
    """The product of tables of Ratios, of so many places, one behind the other."""
    bottom = 1
    tops = [[1 if row == column else 0 for column in range(many)] for row in range(many)]
    for table in tables:
        factor, others = whole_table(table)
        tops = whole_product(tops, others)
        bottom = bottom * factor
    return tuple([tuple([Ratio(top, bottom) for top in row]) for row in tops])


def whole_product(rows, others):
    """The product of tables of integers."""
    columns = list(zip(*others))
    return [[sum([a * b for a, b in zip(row, column)]) for column in columns] for row in rows]
