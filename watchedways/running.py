"""Running a rule over the tables of its watches."""

from watchedways.reckon import check_joining
from watchedways.steps import ON
from watchedways.tables import (
    check_run, product_of_two, told_table, unit_table, worked_reckoning, worked_table,
)


def run(reckoning, tables, rule):
    """The table that the rule tells, worked out from its last step to its first."""
    check_joining(reckoning)
    check_run(reckoning, tables, rule)
    return told_table(reckoning, run_over(reckoning, worked_tables(reckoning, tables, rule), rule))


def run_back(reckoning, tables, rule):
    """The table that the rule tells, worked out from its first step to its last."""
    check_joining(reckoning)
    check_run(reckoning, tables, rule)
    return told_table(reckoning, run_back_over(reckoning, worked_tables(reckoning, tables, rule), rule))


def worked_tables(reckoning, tables, rule):
    """The dict from the watches of the rule to their tables as they are worked with."""
    return {watch: worked_table(reckoning, tables[watch]) for _, watch in rule}


def run_over(reckoning, tables, rule):
    """What run tells, from tables as they are worked with to such a table."""
    inner = worked_reckoning(reckoning)
    found = unit_table(inner, len(tables[rule[0][1]]))
    for kind, watch in rule[::-1]:
        table = tables[watch]
        found = product_of_two(inner, table, found) if kind == ON else lefts_of(inner, table, found)
    return found


def run_back_over(reckoning, tables, rule):
    """What run_back tells, likewise."""
    inner = worked_reckoning(reckoning)
    found = unit_table(inner, len(tables[rule[0][1]]))
    for kind, watch in rule:
        table = tables[watch]
        found = product_of_two(inner, found, table) if kind == ON else rights_of(inner, table, found)
    return found


def lefts_of(reckoning, table, behind):
    """The greatest table whose product behind this one is beneath the other one."""
    columns, others = list(zip(*table)), list(zip(*behind))
    return tuple([
        tuple([
            meet_of(reckoning, [reckoning.left(a, b) for a, b in zip(column, other)]) for other in others
        ])
        for column in columns
    ])


def rights_of(reckoning, table, ahead):
    """The greatest table whose product ahead of this one is beneath the other one."""
    return tuple([
        tuple([meet_of(reckoning, [reckoning.right(b, a) for a, b in zip(row, other)]) for row in table])
        for other in ahead
    ])


def meet_of(reckoning, worths):
    """The meet of all these worths, one at least."""
    found = worths[0]
    for worth in worths[1:]:
        found = reckoning.meet(found, worth)
    return found
