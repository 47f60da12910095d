"""Tables of worths."""

from watchedways.errors import BadRule, BadTables
from watchedways.machines import Machines
from watchedways.numbers import Numbers
from watchedways.ratios import as_ratio
from watchedways.speaking import Tongues
from watchedways.steps import is_any_rule
from watchedways.tongues import machine_in, tongue_from
from watchedways.wholes import whole_chain
from watchedways.words import is_watch

MOST_PLACES = 10


def is_table_of(reckoning, many, thing):
    """Whether it is a table of so many places."""
    if not isinstance(thing, tuple) or len(thing) != many:
        return False
    return all([is_table_row(reckoning, many, row) for row in thing])


def is_table_row(reckoning, many, thing):
    """Whether it is a tuple of so many worths."""
    if not isinstance(thing, tuple) or len(thing) != many:
        return False
    return all([reckoning.is_worth(worth) for worth in thing])


def is_any_table(reckoning, thing):
    """Whether it is a table of 1 to 10 places."""
    if not isinstance(thing, tuple) or not 1 <= len(thing) <= MOST_PLACES:
        return False
    return is_table_of(reckoning, len(thing), thing)


def kept_worth(reckoning, worth):
    """The worth as it is kept: for numbers a Ratio."""
    return as_ratio(worth) if isinstance(reckoning, Numbers) else worth


def kept_table(reckoning, table):
    """The table with the worths as they are kept."""
    return tuple([tuple([kept_worth(reckoning, worth) for worth in row]) for row in table])


def unit_table(reckoning, many):
    """The table with one where row and column are the same place, and none elsewhere."""
    places = range(many)
    return tuple([
        tuple([reckoning.one if row == column else reckoning.none for column in places]) for row in places
    ])


def worked_reckoning(reckoning):
    """The reckoning in which tables are worked out.

    For tongues it is that of machines: only what comes out in the end must not have too
    many states, whatever comes up on the way.
    """
    return Machines(len(reckoning.signs)) if isinstance(reckoning, Tongues) else reckoning


def worked_table(reckoning, table):
    """The table as it is worked with."""
    if not isinstance(reckoning, Tongues):
        return table
    return tuple([tuple([machine_in(tongue) for tongue in row]) for row in table])


def told_table(reckoning, table):
    """The table that comes out, of what was worked with."""
    return tuple([tuple([told_worth(reckoning, worth) for worth in row]) for row in table])


def told_worth(reckoning, worth):
    """The worth that comes out, of what was worked with."""
    return tongue_from(reckoning.signs, worth) if isinstance(reckoning, Tongues) else worth


def chained(reckoning, many, tables):
    """The product of tables of so many places, one behind the other; for numbers they are of Ratios."""
    return told_table(reckoning, worked_chain(reckoning, many, tables))


def worked_chain(reckoning, many, tables):
    """The product of tables one behind the other, as it is worked with."""
    if isinstance(reckoning, Numbers):
        return whole_chain(many, tables)
    inner = worked_reckoning(reckoning)
    found = unit_table(inner, many)
    for at, table in enumerate(tables):
        behind = worked_table(reckoning, table)
        found = behind if at == 0 else product_of_two(inner, found, behind)
    return found


def product_of_two(reckoning, one, other):
    """The product of two tables of the same size."""
    columns = list(zip(*other))
    return tuple([tuple([sum_along(reckoning, row, column) for column in columns]) for row in one])


def sum_along(reckoning, row, column):
    """The join of the products of the worths of a row and a column, one by one."""
    none = reckoning.none
    found = none
    for a, b in zip(row, column):
        # A product with none is none, and a join with none changes nothing.
        if a != none and b != none:
            made = reckoning.times(a, b)
            found = made if found == none else reckoning.join(found, made)
    return found


def check_run(reckoning, tables, rule):
    """Raise BadTables or BadRule for what no rule can be run over."""
    check_tables(reckoning, tables)
    if not is_any_rule(rule) or not all([watch in tables for _, watch in rule]):
        raise BadRule(rule)


def check_tables(reckoning, tables):
    """Raise BadTables if it is no dict from watches to tables of one size."""
    if not isinstance(tables, dict) or not tables:
        raise BadTables(-1)
    sizes = []
    for key in tables:
        if not is_watch(key) or not is_any_table(reckoning, tables[key]):
            raise BadTables(key)
        sizes.append(len(tables[key]))
        if sizes[-1] != sizes[0]:
            raise BadTables(key)
