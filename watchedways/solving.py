"""Rules for numbers of ways, solved row by row."""

from watchedways.errors import ManyRows, NoRow
from watchedways.lines import flat_in, lines_back, lines_on
from watchedways.numbers import Numbers
from watchedways.steps import ON
from watchedways.tables import check_run, kept_table
from watchedways.wholes import whole_table


def solve(tables, rule):
    """The table of numbers that the rule tells."""
    check_run(Numbers(), tables, rule)
    wholes = {watch: whole_table(kept_table(Numbers(), tables[watch])) for _, watch in rule}
    size = len(tables[rule[0][1]])
    return tuple([solved_row(size, at, wholes, rule) for at in range(size)])


def solved_row(size, at, wholes, rule):
    """The row of the place; NoRow or ManyRows if there is none or more than one."""
    flat = flat_in(last_lines(size, at, wholes, rule))
    if flat is None:
        raise NoRow(at)
    if flat[1]:
        raise ManyRows(at)
    return flat[0]


def last_lines(size, at, wholes, rule):
    """The lines of the lot behind the last step of the rule.

    Lines that stand for no row lead to such lines only, so an empty lot stays empty.
    """
    lines = [[1] + [1 if place == at else 0 for place in range(size)]]
    for kind, watch in rule:
        if kind == ON:
            lines = lines_on(lines, wholes[watch])
        else:
            lines = lines_back(lines, wholes[watch])
    return lines
