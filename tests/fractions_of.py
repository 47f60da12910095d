"""Flats by Python's own fractions, worked out otherwise than in the program: for the tests alone."""

from fractions import Fraction

from watchedways.ratios import Ratio


def as_fraction(number):
    return Fraction(number.top, number.bottom) if isinstance(number, Ratio) else Fraction(number)


def fraction_rows(rows):
    return [[as_fraction(number) for number in row] for row in rows]


def in_steps(rows):
    """The rows in steps, and the columns in which they begin, by plain elimination."""
    rows, heads = [list(row) for row in rows], []
    width = len(rows[0]) if rows else 0
    done = 0
    for column in range(width):
        at = next((at for at in range(done, len(rows)) if rows[at][column]), None)
        if at is None:
            continue
        rows[done], rows[at] = rows[at], rows[done]
        rows[done] = [number / rows[done][column] for number in rows[done]]
        for other in range(len(rows)):
            if other != done:
                rows[other] = [a - rows[other][column] * b for a, b in zip(rows[other], rows[done])]
        heads.append(column)
        done += 1
    return rows[:done], heads


def shortest_of(row, rows):
    """The shortest form of a flat."""
    rows, heads = in_steps(rows)
    row = list(row)
    for other, head in zip(rows, heads):
        row = [a - row[head] * b for a, b in zip(row, other)]
    return tuple(row), tuple(tuple(other) for other in rows)


def solutions(columns, wanted):
    """All x for which the sum of x[k] * columns[k] is what is wanted: a row and rows, or None."""
    many = len(columns)
    rows = [[column[at] for column in columns] + [number] for at, number in enumerate(wanted)]
    rows, heads = in_steps(rows)
    if many in heads:
        return None
    free = [at for at in range(many) if at not in heads]
    first = [Fraction(0)] * many
    for row, head in zip(rows, heads):
        first[head] = row[many]
    others = []
    for at in free:
        other = [Fraction(0)] * many
        other[at] = Fraction(1)
        for row, head in zip(rows, heads):
            other[head] = -row[at]
        others.append(other)
    return first, others


def times_table(row, table):
    return [sum((a * b for a, b in zip(row, column)), Fraction(0)) for column in zip(*table)]


def led_on(flat, table):
    row, rows = flat
    return shortest_of(times_table(row, table), [times_table(other, table) for other in rows])


def led_back(flat, table):
    """The shortest form of all rows that the table leads into the flat, or None."""
    row, rows = flat
    columns = [list(side) for side in table] + [[-number for number in other] for other in rows]
    found = solutions(columns, row)
    if found is None:
        return None
    first, others = found
    return shortest_of(first[:len(row)], [other[:len(row)] for other in others])


def holds(flat, row):
    """Whether the flat holds the row."""
    first, rows = flat
    return shortest_of(row, rows)[0] == shortest_of(first, rows)[0]


def flat_of(flat):
    """The flat of the program in fractions, or None."""
    return flat and (tuple(map(as_fraction, flat[0])), tuple(tuple(map(as_fraction, row)) for row in flat[1]))
