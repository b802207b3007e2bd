"""Integers of either sign side by side in the slots of one integer.

So one product or sum of two integers does it for all slots. All slots have the same number
of hexadecimal figures, which can be read and written in a time that grows with their number.
"""


class Slots:
    """Slots for integers of a size of at most bound."""

    def __init__(self, bound):
        self.wide = bound.bit_length() // 4 + 1
        self.bits = 4 * self.wide
        self.half = 1 << (self.bits - 1)

    def packed(self, numbers):
        """The integer with these numbers in its slots, the first one in the lowest."""
        if not numbers:
            return 0
        texts = [f"{self.half + number:x}".zfill(self.wide) for number in reversed(numbers)]
        return int("".join(texts), 16) - self.halves(len(numbers))

    def unpacked(self, packed, many):
        """The list of the numbers in the first so many slots; the others are empty."""
        if many == 0:
            return []
        text = f"{packed + self.halves(many):x}".zfill(many * self.wide)
        empty = f"{self.half:x}"
        texts = [text[place:place + self.wide] for place in range(0, len(text), self.wide)]
        return [0 if part == empty else int(part, 16) - self.half for part in reversed(texts)]

    def halves(self, many):
        """The integer with the half of what a slot holds in each of so many slots.

        It keeps slots with numbers below 0 from borrowing of their neighbours.
        """
        return int(f"{self.half:x}" * many, 16)
