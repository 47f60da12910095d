"""Flats, worked out in integers.

A LINE is a list of integers that stands for all its multiples: of a row of numbers, first a
common bottom of them, then what stands above it; of what may be put to a row any number of
times, first 0, then it. LINES are a list of lines in steps: the head of each, its
first integer that is not 0, is above 0 and stands farther on than that of the line ahead of it,
all others have 0 there, and nothing but 1 divides all integers of a line. They stand for
all that can be put together of them, and for each such lot there are just one such lines.
"""

from math import gcd, lcm

from watchedways.ratios import Ratio


def line_of(first, numbers):
    """The line of the first integer and these Ratios behind it."""
    bottom = 1
    for number in numbers:
        bottom = lcm(bottom, number.bottom)
    return [first * bottom] + [number.top * (bottom // number.bottom) for number in numbers]


def lines_of(given):
    """The lines of all that can be put together of the given ones."""
    lines = []
    for line in given:
        lines = with_line(lines, line)
    return lines


def with_line(lines, line):
    """The lines of all that can be put together of these and one more."""
    rest = line
    for other in lines:
        rest = cleared(rest, other)
    if not any([number != 0 for number in rest]):
        return lines
    rest = lowest(rest)
    return sorted([lowest(cleared(other, rest)) for other in lines] + [rest], key=head_of)


def head_of(line):
    """The index of the first integer that is not 0."""
    at = 0
    while line[at] == 0:
        at += 1
    return at


def cleared(line, other):
    """What of the line is left with 0 where the other one has its head."""
    at = head_of(other)
    if line[at] == 0:
        return line
    shared = gcd(line[at], other[at])
    up, down = other[at] // shared, line[at] // shared
    return [a * up - b * down for a, b in zip(line, other)]


def lowest(line):
    """The line with nothing but 1 that divides all its integers."""
    shared = 0
    for number in line:
        shared = gcd(shared, number)
    return [number // shared for number in line]


def led(line, whole):
    """Where a table leads the line to; the table is told as whole_table tells it."""
    bottom, tops = whole
    return [line[0] * bottom] + [sum([a * b for a, b in zip(line[1:], column)]) for column in zip(*tops)]


def lines_on(lines, whole):
    """The lines to which the table leads these."""
    return lines_of([led(line, whole) for line in lines])


def lines_back(lines, whole):
    """The lines of all that the table leads to these.

    What it leads to is written in front of what is led; where it and the lines cancel
    out, that stands for what is led.
    """
    size = len(whole[1]) + 1
    units = [[1 if at == here else 0 for at in range(size)] for here in range(size)]
    both = [line + [0] * size for line in lines] + [led(unit, whole) + unit for unit in units]
    return [line[size:] for line in lines_of(both) if head_of(line) >= size]


def lines_in(flat):
    """The lines of a flat of Ratios."""
    row, rows = flat
    return lines_of([line_of(1, row)] + [line_of(0, other) for other in rows])


def flat_in(lines):
    """The flat in the shortest form that the lines stand for, or None if they stand for no row."""
    if not lines or lines[0][0] == 0:
        return None
    found = [tuple([Ratio(number, line[head_of(line)]) for number in line[1:]]) for line in lines]
    return (found[0], tuple(found[1:]))
