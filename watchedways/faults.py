"""What is first found wrong with the tables of a told reckoning.

A fault is a tuple (word, a, b, c) as BadReckoning tells it; -1 stands for no worth.
"""

from watchedways.kinds import is_integer, is_row

FEWEST_WORTHS = 2
MOST_WORTHS = 16


def first_fault(joins, products, none, one):
    """The first thing that is not so, or None."""
    return (
        size_fault(joins, products, none, one)
        or none_fault(joins, products, none)
        or one_fault(products, one)
        or idle_fault(joins)
        or swap_fault(joins)
        or grouping_fault("join", joins)
        or grouping_fault("product", products)
        or over_fault(joins, products)
        or same_fault(none, one)
    )


def size_fault(joins, products, none, one):
    """Whether these are no tables and worths of one size."""
    if not is_row(joins) or not FEWEST_WORTHS <= len(joins) <= MOST_WORTHS:
        return ("size", -1, -1, -1)
    many = len(joins)
    if not is_square(many, joins) or not is_square(many, products):
        return ("size", -1, -1, -1)
    if not is_below(many, none) or not is_below(many, one):
        return ("size", -1, -1, -1)
    return None


def is_square(many, thing):
    """Whether it is a row of so many rows of so many integers from 0 on below it."""
    return is_row(thing) and len(thing) == many and all([is_side(many, row) for row in thing])


def is_side(many, thing):
    """Whether it is a row of so many integers from 0 on below it."""
    return is_row(thing) and len(thing) == many and all([is_below(many, item) for item in thing])


def is_below(many, thing):
    """Whether it is an integer from 0 on below this."""
    return is_integer(thing) and 0 <= thing < many


def none_fault(joins, products, none):
    """The least worth that none changes in a join, or that keeps something in a product with it."""
    for a in range(len(joins)):
        if joins[none][a] != a or joins[a][none] != a:
            return ("none", a, -1, -1)
        if products[none][a] != none or products[a][none] != none:
            return ("none", a, -1, -1)
    return None


def one_fault(products, one):
    """The least worth that one changes in a product."""
    for a in range(len(products)):
        if products[one][a] != a or products[a][one] != a:
            return ("one", a, -1, -1)
    return None


def idle_fault(joins):
    """The least worth whose join with itself is another one."""
    for a in range(len(joins)):
        if joins[a][a] != a:
            return ("idle", a, -1, -1)
    return None


def swap_fault(joins):
    """The least two worths whose join is not the same either way."""
    for a in range(len(joins)):
        for b in range(len(joins)):
            if joins[a][b] != joins[b][a]:
                return ("swap", a, b, -1)
    return None


def grouping_fault(word, table):
    """The least three worths for which it matters which two are put together first."""
    worths = range(len(table))
    for a in worths:
        for b in worths:
            for c in worths:
                if table[table[a][b]][c] != table[a][table[b][c]]:
                    return (word, a, b, c)
    return None


def over_fault(joins, products):
    """The least three worths for which a product does not go over a join."""
    worths = range(len(joins))
    for a in worths:
        for b in worths:
            for c in worths:
                joined = joins[b][c]
                if products[a][joined] != joins[products[a][b]][products[a][c]]:
                    return ("over", a, b, c)
                if products[joined][a] != joins[products[b][a]][products[c][a]]:
                    return ("over", a, b, c)
    return None


def same_fault(none, one):
    """Whether none is one."""
    return ("same", -1, -1, -1) if none == one else None
