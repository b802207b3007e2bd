"""Equations between integers solved exactly, ratios, and the shortest rules of rows of integers."""

from math import gcd

from restcounts.arithmetic import common_divisor


def solved(rows, right):
    """The integers x and the integer t, not 0, so that rows * x = t * right, place by place.

    rows has as many rows as places, and no other x than one fits for each right side.
    """
    lines = [list(row) + [number] for row, number in zip(rows, right)]
    before = 1
    for at in range(len(lines)):
        chosen = min([i for i in range(at, len(lines)) if lines[i][at] != 0])
        lines[at], lines[chosen] = lines[chosen], lines[at]
        head = lines[at]
        pivot = head[at]
        for i, line in enumerate(list(lines)):
            if i != at:
                factor = line[at]
                # All these numbers are determinants, so that nothing is left over.
                lines[i] = [(pivot * a - factor * b) // before for a, b in zip(line, head)]
        before = pivot
    return [line[-1] for line in lines], before


def lowest(top, bottom):
    """The ratio in lowest terms, its bottom above 0."""
    common = gcd(top, bottom)
    if bottom < 0:
        common = -common
    return (top // common, bottom // common)


def ratio_sum(one, other):
    """The sum of two ratios."""
    return lowest(one[0] * other[1] + other[0] * one[1], one[1] * other[1])


def shortest_rule(terms):
    """The numbers c0, c1, .. by which each term is the sum of their multiples of those ahead.

    c0 goes with the earliest of them. They are as few as can be for these terms, and integers,
    as they are if the terms are those of a machine and at least twice as many as its states.
    """
    # As Berlekamp and Massey do it, but with whole numbers: the sums of found[i] times the term
    # i places back are 0 for all terms so far.
    found, earlier = [1], [1]
    length, gap, worth = 0, 1, 1
    for at in range(len(terms)):
        wrong = sum([factor * terms[at - back] for back, factor in enumerate(found) if back <= at])
        if wrong == 0:
            gap = gap + 1
            continue
        changed = corrected(found, earlier, worth, wrong, gap)
        if 2 * length <= at:
            length, earlier, worth, gap = at + 1 - length, found, wrong, 1
        else:
            gap = gap + 1
        found = changed
    padded = found + [0] * (length + 1 - len(found))
    return tuple([-number // padded[0] for number in reversed(padded[1:])])


def corrected(found, earlier, worth, wrong, gap):
    """worth * found - wrong * earlier, moved by so many places, without common divisors."""
    moved = [0] * gap + earlier
    many = max(len(found), len(moved))
    one = found + [0] * (many - len(found))
    other = moved + [0] * (many - len(moved))
    mixed = [worth * a - wrong * b for a, b in zip(one, other)]
    while mixed[-1] == 0:
        mixed.pop()
    common = common_divisor(mixed)
    return [number // common for number in mixed]
