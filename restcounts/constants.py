"""Constant parts of powers of a sum, exactly, one after the other.

The sum to the power n is the product of two powers of about n / 2, and of their product the
constant part alone is needed. Each power is kept as a sheet: a dict from the exponents of two
of the letters to a row, in which the numbers at all exponents of the third letter stand side
by side. Exponents are counted from the least one on.
"""

from restcounts.arithmetic import power_of
from restcounts.multiplying import LETTERS, greatest_exponents, least_exponents
from restcounts.slots import Slots


def constant_parts(steps, ends, points):
    """The constant parts of steps to the power n, times ends, for all n in points, ascending."""
    if not points:
        return []
    if not steps.terms or not ends.terms:
        return [ends.constant() if n == 0 else 0 for n in points]
    return Sheets(steps.terms, ends.terms, points[-1]).constants(points)


class Sheets:
    """How sheets are made of the terms of steps and of ends."""

    def __init__(self, steps, ends, most):
        low, high = least_exponents(steps), greatest_exponents(steps)
        spans = [high[at] - low[at] for at in LETTERS]
        # The letter with the widest span stands in the rows, as rows are led on at once.
        last = spans.index(max(spans))
        self.order = [at for at in LETTERS if at != last] + [last]
        self.low = [low[at] for at in self.order]
        self.low_ends = [least_exponents(ends)[at] for at in self.order]
        self.steps = self.lines(steps, self.low)
        self.ends = self.lines(ends, self.low_ends)
        self.plain = self.ends == [((0, 0), 0, 1)]
        self.slots = Slots(power_of(size_of_sum(steps), most // 2 + 1) * size_of_sum(ends))

    def lines(self, terms, low):
        """The terms as (exponents of two letters, exponent of the third one, number)."""
        found = []
        for power, number in terms:
            i, j, h = [power[at] - least for at, least in zip(self.order, low)]
            found.append(((i, j), h, number))
        return found

    def constants(self, points):
        """The constant parts for all n in points."""
        wanted = {n: True for n in points}
        found = []
        sheet = {(0, 0): 1}
        half = 0
        ended = {}
        # For n = 2 * half - 1 the ends are those of the sheet before.
        while True:
            even = 2 * half
            rows = self.rows_of(sheet) if even in wanted or even - 1 in wanted else {}
            if even - 1 in wanted:
                found.append(self.constant_part(rows, ended, even - 1))
            if even in wanted or even + 1 in wanted:
                ended = self.ended_rows(sheet, rows)
            if even in wanted:
                found.append(self.constant_part(rows, ended, even))
            if len(found) == len(points):
                return found
            sheet = self.led(sheet, self.steps)
            half = half + 1

    def ended_rows(self, sheet, rows):
        """The rows of the sheet times the ends; rows are those of the sheet, or none are known."""
        if not self.plain:
            return self.rows_of(self.led(sheet, self.ends))
        return rows or self.rows_of(sheet)

    def led(self, sheet, lines):
        """The sheet of the product with the terms of these lines."""
        found = {}
        for (i, j), packed in sheet.items():
            for (i2, j2), slot, number in lines:
                at = (i + i2, j + j2)
                found[at] = found.get(at, 0) + ((packed * number) << (self.slots.bits * slot))
        return found

    def rows_of(self, sheet):
        """The sheet with its rows as lists of numbers."""
        return {at: self.slots.unpacked(packed, packed.bit_length() // self.slots.bits + 1)
                for at, packed in sheet.items()}

    def constant_part(self, rows, ended, n):
        """The constant part of the product of two sheets, one of them times the ends."""
        i, j, h = [-n * low - low_ends for low, low_ends in zip(self.low, self.low_ends)]
        total = 0
        for (i2, j2), row in rows.items():
            other = ended.get((i - i2, j - j2))
            if other is not None:
                total = total + meeting(row, other, h)
        return total


def size_of_sum(terms):
    """The sum of the sizes of all numbers."""
    return sum([abs(number) for _, number in terms])


def meeting(row, other, place):
    """The sum of all products of numbers whose places in the two rows add up to place."""
    least = max(0, place - len(other) + 1)
    most = min(len(row) - 1, place)
    if least > most:
        return 0
    beside = list(reversed(other[place - most:place - least + 1]))
    return sum([a * b for a, b in zip(row[least:most + 1], beside)])
