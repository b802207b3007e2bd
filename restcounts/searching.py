"""The least word of digits, or the least number, at which some start of a system tells no 0."""

from restcounts.moduli import digits, number_of, prime_power
from restcounts.packing import pack, unpack
from restcounts.pivots import in_form, put_row, rows_of
from restcounts.systems import dot, first_rests_of, led, packed_tables, turned_tables

# So many numbers are looked at one by one, and all words of so many digits.
NEAR = 50
FEW_DIGITS = 2


class Levels:
    """For each number of digits the lot of all rows to which so many digits lead."""

    def __init__(self, system):
        self.m = system.m
        self.width = system.width
        self._tables = packed_tables(system.moves, system.m)
        self._turned = packed_tables(turned_tables(system.moves), system.m)
        self._levels = [self.form_of([pack(row, system.m) for row in system.starts])]
        self._known = {self._levels[0]: 0}
        self._round = 0

    def form_of(self, packed_rows):
        """The form of the lot of these packed rows."""
        pivots = {}
        for packed in packed_rows:
            put_row(pivots, packed, self.width, self.m)
        return rows_of(in_form(pivots, self.width, self.m), self.width, self.m)

    def rows_at(self, level):
        """Rows that make the lot for so many digits."""
        while len(self._levels) <= level and self._round == 0:
            self.add_level()
        last = len(self._levels) - 1
        if level <= last:
            return self._levels[level]
        # The lots go round from here on, as each one tells the next one.
        return self._levels[last - self._round + 1 + (level - last - 1) % self._round]

    def add_level(self):
        """Work out the lot for one digit more."""
        form = self.form_of([led(row, table) for table in self._tables
                             for row in self._levels[-1]])
        if form in self._known:
            self._round = len(self._levels) - self._known[form]
        else:
            self._known[form] = len(self._levels)
            self._levels.append(form)

    def column_led(self, column, digit):
        """The table of this digit times a column."""
        return unpack(led(column, self._turned[digit]), self.width, self.m)

    def meets(self, level, column):
        """Whether some row to which so many digits lead tells no 0 with this column."""
        return any([dot(row, column) % self.m != 0 for row in self.rows_at(level)])

    def least_digits(self, level, column):
        """So many digits, the low one first, that lead some start to no 0 with this column.

        The highest one is as low as can be, then the next one, and so on.
        """
        found = []
        for below in reversed(range(level)):
            digit, column = self.least_digit(below, column, 0)
            found.append(digit)
        return tuple(reversed(found))

    def least_digit(self, level, column, least):
        """The least digit from least on behind which so many digits below can make no 0.

        The pair of it and of the column that it leads to; (None, column) if there is none.
        """
        for digit in range(least, len(self._tables)):
            behind = self.column_led(column, digit)
            if self.meets(level, behind):
                return digit, behind
        return None, column

    def adds(self, gathered, level):
        """Put the lot for so many digits into pivots; whether their lot grows."""
        grown = [put_row(gathered, pack(row, self.m), self.width, self.m)
                 for row in self.rows_at(level)]
        return any(grown)


def short_word(system):
    """The first word of a few digits at which the start tells no 0; None if there is none.

    Words of fewer digits come first, and those of equally many in ascending order.
    """
    tables = packed_tables(system.moves, system.m)
    reached = [((), system.starts[0])]
    for _ in range(FEW_DIGITS + 1):
        for word, row in reached:
            if dot(row, system.ends) % system.m != 0:
                return word
        reached = [(word + (digit,), unpack(led(row, table), system.width, system.m))
                   for word, row in reached for digit, table in enumerate(tables)]
    return None


def near_number(system, low):
    """The first of a few n from low on at which some start of a steady system tells no 0."""
    values = first_rests_of(system, tuple(range(low, low + NEAR)))
    for at in range(NEAR):
        if any([rests[at] != 0 for rests in values]):
            return low + at
    return None


def least_word(system):
    """The word of fewest digits at which some start tells no 0; None if there is none.

    Of several, the one whose last digit is the lowest, then the digit ahead of it, and so on.
    """
    levels = Levels(system)
    gathered = {}
    level = 0
    # Once the lot for a number of digits is within those for fewer, so are all the next ones.
    while not levels.meets(level, system.ends):
        if not levels.adds(gathered, level):
            return None
        level = level + 1
    return levels.least_digits(level, system.ends)


def least_number(system, low):
    """The least n from low on at which some start of a steady system tells no 0, or None."""
    p, _ = prime_power(system.m)
    levels = Levels(system)
    word = digits(low, p)
    # columns[at] is the ends, led by the digits of low from the place at on.
    columns = [system.ends]
    for digit in reversed(word):
        columns.append(levels.column_led(columns[-1], digit))
    columns.reverse()
    if levels.meets(0, columns[0]):
        return low
    gathered = {}
    level = 0
    # n has the digits of low behind this place, and a higher one than low at it.
    while True:
        is_inside = level < len(word)
        column = columns[level + 1] if is_inside else system.ends
        digit, behind = levels.least_digit(level, column, word[level] + 1 if is_inside else 1)
        if digit is not None:
            below = levels.least_digits(level, behind)
            return number_of(below + (digit,) + word[level + 1:], p)
        if not is_inside and not levels.adds(gathered, level):
            return None
        level = level + 1
