"""Systems: rows to begin with, a square table for each digit, and ends.

A row of a system is led on by a digit: it is multiplied by the table of this digit. A row
tells, for each word of digits, the number that it has when it is led by these digits and then
multiplied by the ends. Tables are systems with one row to begin with; joint rows and relations
are about systems with several of them.
"""

from restcounts.arithmetic import power_of
from restcounts.moduli import prime_power
from restcounts.packing import pack, unpack
from restcounts.pivots import (
    entry_of, in_form, left_over, marked, pivots_of, put_row, rows_of, size_of)

# Tables of more rows than this are wide.
WIDE = 100
# So many rows that are led to known ones let a lot seem closed.
PATIENCE = 20


class System:
    """Starts, a tuple of rows; moves, a table for each digit; ends. All numbers are rests."""

    def __init__(self, m, starts, moves, ends):
        self.m = m
        self.width = len(ends)
        self.starts = starts
        self.moves = moves
        self.ends = ends


class Basis:
    """As few rows as can make a lot, and how the rows of the lot are made of them."""

    def __init__(self, pivots, width, m):
        self.m = m
        self.width = width
        formed = in_form(pivots, width, m)
        self._places = sorted(formed)
        self._is_free = size_of(formed, m) == power_of(m, len(formed))
        self._marks = {}
        if self._is_free:
            self.rows = rows_of(formed, width, m)
        else:
            self.rows = least_makers(formed, width, m)
            self._marks = pivots_of(marked(self.rows), width + len(self.rows), m)
        self._packed = [pack(row, m) for row in self.rows]

    def numbers(self, packed):
        """The numbers by which the rows add up to a packed row; None if the lot has it not."""
        if self._is_free:
            # Each row of the form has a 1 at its head, where all the others have a 0.
            row = unpack(packed, self.width, self.m)
            numbers = tuple([row[at] for at in self._places])
            made = unpack(led(numbers, self._packed), self.width, self.m)
            return numbers if made == row else None
        rest = left_over(self._marks, packed, self.m)
        left = unpack(rest, self.width + len(self.rows), self.m)
        if any(left[:self.width]):
            return None
        return tuple([-number % self.m for number in left[self.width:]])


def least_makers(pivots, width, m):
    """As few rows as can make the lot of these pivots."""
    rows = rows_of(pivots, width, m)
    return tuple([rows[at] for at in needed(rows, width, m)])


def needed(rows, width, m):
    """The places of as few of these rows as can make the lot that all of them make."""
    # Rows make the lot exactly if they do so together with all p-fold rows of the lot.
    p, _ = prime_power(m)
    made = {}
    for row in rows:
        put_row(made, p * pack(row, m), width, m)
    return [at for at, row in enumerate(rows) if put_row(made, pack(row, m), width, m)]


def packed_tables(moves, m):
    """The tables with their rows packed."""
    return [[pack(row, m) for row in table] for table in moves]


def turned_tables(moves):
    """The tables with rows and columns exchanged."""
    return tuple([tuple([tuple(column) for column in zip(*table)]) for table in moves])


def led(row, table):
    """The packed row, its numbers not yet rests, that the row times a packed table is."""
    if len(table) > WIDE:
        return led_wide(row, table)
    total = 0
    for number, packed in zip(row, table):
        if number != 0:
            total = total + number * packed
    return total


def led_wide(row, table):
    """The same for many rows."""
    # As rests are few, it takes less time to add up the rows with equal rests first.
    sums = {}
    for number, packed in zip(row, table):
        if number != 0:
            sums[number] = sums.get(number, 0) + packed
    total = 0
    for number, packed in sums.items():
        total = total + number * packed
    return total


def dot(one, other):
    """The sum of the products, place by place."""
    return sum([a * b for a, b in zip(one, other)])


class Closing:
    """The least lot with some rows and all to which tables lead its rows, as far as it is found."""

    def __init__(self, rows, tables, width, m):
        self.m = m
        self.width = width
        self.pivots = {}
        self._tables = tables
        # Pairs of a row and of a table by which it is not led yet.
        self._waiting = []
        for row in rows:
            self.put(pack(row, m))

    def put(self, packed):
        """Put a packed row into the lot; whether the lot has grown."""
        grown = put_row(self.pivots, packed, self.width, self.m)
        if grown:
            row = unpack(packed, self.width, self.m)
            self._waiting.extend([(row, table) for table in self._tables])
        return grown

    def is_all(self):
        """Whether it is the lot of all rows."""
        return (len(self.pivots) == self.width
                and all([entry_of(self.pivots[at]) == 1 for at in self.pivots]))

    def go_on(self, patience):
        """Lead rows until so many in turn are led to known ones; all if patience is None."""
        known = 0
        while self._waiting and known != patience and not self.is_all():
            row, table = self._waiting.pop()
            known = 0 if self.put(led(row, table)) else known + 1


def makers_met(row, tables, width, m):
    """Rows to which words of digits lead this row, and that make the lot of all such rows.

    Pairs of the word, in the order in which its digits lead, and of the row.
    """
    pivots = {}
    found = []
    waiting = [((), row)]
    done = 0
    while done < len(waiting):
        word, reached = waiting[done]
        done = done + 1
        if put_row(pivots, pack(reached, m), width, m):
            found.append((word, reached))
            waiting.extend([(word + (digit,), unpack(led(reached, table), width, m))
                            for digit, table in enumerate(tables)])
    return found


def led_by_all(rows, tables, width, m):
    """The rows to which the tables lead these rows, those of the first table first."""
    return [unpack(led(row, table), width, m) for table in tables for row in rows]


def closed(rows, tables, width, m):
    """Pivots of the least lot with these rows and all to which the tables lead its rows."""
    closing = Closing(rows, tables, width, m)
    closing.go_on(None)
    return closing.pivots


def spanned(rows, tables, width, m):
    """The basis of this least lot, and the rows and the tables in the numbers of the basis.

    None if it is the lot of all rows.
    """
    closing = Closing(rows, tables, width, m)
    patience = PATIENCE
    while True:
        closing.go_on(patience)
        if closing.is_all():
            return None
        # The rows of the basis are led by all tables in any case, so this shows whether the
        # lot is closed.
        basis = Basis(closing.pivots, width, m)
        images = [led(row, table) for table in tables for row in basis.rows]
        lines = [basis.numbers(packed) for packed in images]
        fresh = [packed for packed, numbers in zip(images, lines) if numbers is None]
        if not fresh:
            break
        for packed in fresh:
            closing.put(packed)
        patience = 2 * patience
    starts = tuple([basis.numbers(pack(row, m)) for row in rows])
    many = len(basis.rows)
    moves = tuple([tuple(lines[at * many:(at + 1) * many]) for at in range(len(tables))])
    return basis, starts, moves


def narrowed(system):
    """The same with a row only for what the rows to begin with lead to."""
    m, width = system.m, system.width
    found = spanned(system.starts, packed_tables(system.moves, m), width, m)
    if found is None:
        return system
    basis, starts, moves = found
    return System(m, starts, moves, tuple([dot(row, system.ends) % m for row in basis.rows]))


def shortened(system):
    """The same, where two rows that digits lead to are the same if they tell the same."""
    # The columns to which words of digits lead the ends are sums of multiples of a few. A row
    # tells what these few tell of it, so this is the row that takes its place.
    m, width = system.m, system.width
    tables = packed_tables(turned_tables(system.moves), m)
    found = spanned((system.ends,), tables, width, m)
    if found is None:
        return system
    basis, ends, moves = found
    table = [pack(numbers, m) for numbers in zip(*basis.rows)]
    starts = tuple([unpack(led(row, table), len(basis.rows), m) for row in system.starts])
    return System(m, starts, turned_tables(moves), ends[0])


def least_system(system):
    """The same with as few rows as can be."""
    return narrowed(shortened(system))


def row_at(row, tables, word, width, m):
    """The row to which this row is led by a word of digits."""
    for digit in word:
        row = unpack(led(row, tables[digit]), width, m)
    return row


def column_at(system, turned, word):
    """The ends as a word of digits leads to them; turned are the packed turned tables."""
    column = system.ends
    for digit in reversed(word):
        column = unpack(led(column, turned[digit]), system.width, system.m)
    return column


def first_rests_of(system, points):
    """For each start the rests at all points, integers from 0 on, of a steady system."""
    p, _ = prime_power(system.m)
    turned = packed_tables(turned_tables(system.moves), system.m)
    columns = {0: system.ends}
    for point in points:
        # A number behind its lowest digits is a shorter one, mostly one that was met before.
        unknown = [point]
        while unknown[-1] not in columns:
            unknown.append(unknown[-1] // p)
        for number in reversed(unknown[:-1]):
            column = led(columns[number // p], turned[number % p])
            columns[number] = unpack(column, system.width, system.m)
    return [[dot(start, columns[n]) % system.m for n in points]
            for start in system.starts]
