"""Reading a text from its beginning on, up to the first character that can't stand there."""

from restcounts.errors import BadText

FIGURES = "0123456789"
LETTERS = "abcdefghijklmnopqrstuvwxyz"
CAPITALS = "ABCDEFGHIJKLMNOPQRSTUVWXYZ"
NAME_SIGNS = "abcdefghijklmnopqrstuvwxyz0123456789"
MOST_NAME_SIGNS = 20


class Scanner:
    """A text and the place up to which it is read; what is read can go on to a right text.

    known are the names that may stand as factors of a count, None where no name may stand.
    """

    def __init__(self, text, known=None):
        self.text = text
        self.known = known
        self.place = 0

    def here(self):
        """The next character, an empty string at the end of the text."""
        return self.text[self.place:self.place + 1]

    def step_on(self):
        """Read the next character."""
        self.place = self.place + 1

    def skip(self):
        """Read all spaces that follow."""
        while self.here() == " ":
            self.step_on()

    def fail(self):
        """Raise BadText at the next character."""
        raise BadText(self.place + 1)

    def at_figure(self):
        """Whether a figure follows."""
        return self.here() != "" and self.here() in FIGURES

    def take(self, sign):
        """Read this sign, and spaces ahead of it."""
        self.skip()
        if self.here() != sign:
            self.fail()
        self.step_on()

    def took(self, sign):
        """Read spaces, and this sign if it follows; whether it does."""
        self.skip()
        found = self.here() == sign
        if found:
            self.step_on()
        return found

    def figures(self, most=None, greatest=None):
        """Read the figures of a number and tell them.

        They are at most so many, and tell no more than the greatest number; None bounds nothing.
        """
        self.skip()
        begin = self.place
        if not self.at_figure():
            self.fail()
        while self.at_figure():
            if self.text[begin] == "0" and self.place > begin:
                self.fail()
            if most is not None and self.place - begin >= most:
                self.fail()
            if greatest is not None and int(self.text[begin:self.place + 1]) > greatest:
                self.fail()
            self.step_on()
        return self.text[begin:self.place]

    def is_apart(self):
        """Whether something that is no sign may begin here, as none ends just ahead."""
        return not self.text[self.place - 1:self.place].isalnum()

    def begin(self):
        """Read spaces up to something that is no sign; BadText if it stands at once behind another."""
        self.skip()
        if not self.is_apart():
            self.fail()

    def word(self, word):
        """Read the characters of this word."""
        for sign in word:
            if self.here() != sign:
                self.fail()
            self.step_on()

    def one_of(self, words):
        """Read one of these words, none of which begins another one, character by character."""
        begun = ""
        while begun not in words:
            begun = begun + self.here()
            if self.here() == "" or not any([word.startswith(begun) for word in words]):
                self.fail()
            self.step_on()
        return begun

    def at_capital(self):
        """Whether a name may begin here."""
        return self.here() != "" and self.here() in CAPITALS

    def read_name(self):
        """Read a name as far as it goes, and tell it."""
        begin = self.place
        if not self.at_capital():
            self.fail()
        self.step_on()
        while (self.here() != "" and self.here() in NAME_SIGNS
               and self.place - begin < MOST_NAME_SIGNS):
            self.step_on()
        return self.text[begin:self.place]

    def end(self):
        """Raise BadText unless nothing but spaces follows."""
        self.skip()
        if self.here() != "":
            self.fail()
