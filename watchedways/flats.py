"""Flats: a row of numbers, and all multiples of some rows put to it."""

from watchedways.errors import BadFlat, BadMany, BadRow, BadTable
from watchedways.kinds import is_integer, is_row
from watchedways.lines import flat_in, line_of, lines_back, lines_in, lines_on, with_line
from watchedways.numbers import Numbers
from watchedways.ratios import as_ratio, is_number
from watchedways.tables import is_table_of, kept_table
from watchedways.wholes import whole_table

MOST_WIDTH = 10
MOST_ROWS = 20


def flat_through(width, row, rows):
    """The flat of the row and all multiples of the rows, in its shortest form."""
    if not is_integer(width) or not 1 <= width <= MOST_WIDTH:
        raise BadMany(width)
    if not is_row_of_numbers(width, row):
        raise BadRow(row)
    if not is_row(rows) or len(rows) > MOST_ROWS:
        raise BadRow(rows)
    for item in rows:
        if not is_row_of_numbers(width, item):
            raise BadRow(item)
    return shortest_flat(row, rows)


def flat_on(flat, table):
    """The flat to which the table leads all rows of the flat."""
    check_flat(flat)
    whole = checked_whole(len(flat[0]), table)
    return flat_in(lines_on(lines_in(kept_flat(flat[0], flat[1])), whole))


def flat_back(flat, table):
    """The flat of all rows that the table leads into the flat, or None if there are none."""
    check_flat(flat)
    whole = checked_whole(len(flat[0]), table)
    return flat_in(lines_back(lines_in(kept_flat(flat[0], flat[1])), whole))


def is_in_flat(flat, thing):
    """Whether it is a row of the flat."""
    check_flat(flat)
    if not isinstance(thing, tuple) or not is_row_of_numbers(len(flat[0]), thing):
        return False
    lines = lines_in(kept_flat(flat[0], flat[1]))
    return len(with_line(lines, line_of(1, kept_row(thing)))) == len(lines)


def is_row_of_numbers(width, thing):
    """Whether it is a row of so many numbers."""
    return is_row(thing) and len(thing) == width and all([is_number(item) for item in thing])


def kept_row(row):
    """The tuple of the numbers as Ratios."""
    return tuple([as_ratio(item) for item in row])


def kept_flat(row, rows):
    """The tuple of a row and rows, all of Ratios."""
    return (kept_row(row), tuple([kept_row(item) for item in rows]))


def shortest_flat(row, rows):
    """The flat of rows of numbers in its shortest form."""
    return flat_in(lines_in(kept_flat(row, rows)))


def check_flat(flat):
    """Raise BadFlat if it is no flat in its shortest form."""
    if not is_flat(flat):
        raise BadFlat(flat)


def is_flat(thing):
    """Whether it is a flat in its shortest form."""
    if not isinstance(thing, tuple) or len(thing) != 2:
        return False
    row, rows = thing
    if not isinstance(row, tuple) or not 1 <= len(row) <= MOST_WIDTH or not is_row_of_numbers(len(row), row):
        return False
    # More rows than the width cannot stand in steps.
    if not isinstance(rows, tuple) or len(rows) > len(row):
        return False
    if not all([isinstance(item, tuple) and is_row_of_numbers(len(row), item) for item in rows]):
        return False
    return shortest_flat(row, rows) == thing


def checked_whole(width, table):
    """The table over a common bottom; BadTable if it is none of this width."""
    if not is_table_of(Numbers(), width, table):
        raise BadTable(table)
    return whole_table(kept_table(Numbers(), table))
