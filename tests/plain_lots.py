"""Lots as plain sets of all their rows, straight from their description."""

from itertools import combinations, product


def made_by(m, width, rows):
    """The set of all sums of multiples of rows modulo m."""
    found = {(0,) * width}
    for row in rows:
        found = {tuple((a + times * b) % m for a, b in zip(one, row))
                 for one in found for times in range(m)}
    return found


def head_of(row):
    """The first place at which the row is not 0, None for zeros."""
    return next((place for place, number in enumerate(row) if number), None)


def form_of(lot, width):
    """The form of a plain lot: picked out of all of its rows by the description of it."""
    entries = {}
    for row in lot:
        head = head_of(row)
        if head is not None:
            entries[head] = min(entries.get(head, row[head]), row[head])
    form = []
    for head in sorted(entries):
        fitting = [row for row in lot if head_of(row) == head and row[head] == entries[head]
                   and all(row[i] < entries[i] for i in entries if i > head)]
        if len(fitting) != 1:
            raise AssertionError("not exactly one row of the form", head, fitting)
        form.append(fitting[0])
    return tuple(form)


def least_of(lot, m, width):
    """The least number of rows that make a plain lot, by trying."""
    for many in range(width + 1):
        for rows in combinations(sorted(lot), many):
            if len(made_by(m, width, rows)) == len(lot):
                return many
    raise AssertionError("more rows than the width are needed")


def all_rows(m, width):
    return product(range(m), repeat=width)


def sum_of_multiples(m, width, numbers, rows):
    total = [0] * width
    for times, row in zip(numbers, rows):
        total = [(a + times * b) % m for a, b in zip(total, row)]
    return tuple(total)
