"""README.md: what it shows can be run, and tells what it says."""

import os
import re
import unittest

TOP = os.path.dirname(os.path.dirname(os.path.abspath(__file__)))


class Readme(unittest.TestCase):

    def setUp(self):
        with open(os.path.join(TOP, "README.md"), encoding="utf-8") as file:
            text = file.read()
        self.pieces = re.findall("```python\n(.*?)```", text, re.DOTALL)
        self.text = text

    def test_what_it_shows_runs(self):
        names = {}
        for piece in self.pieces:
            exec(piece, names)
        self.assertEqual(names["desk"].names(), ("A", "Middle", "Twice", "B", "C"))
        self.assertEqual(names["desk"].promises(), ("Middle follows", "always Middle at 3*n + 2 is 0"))

    def test_values_that_it_tells(self):
        names, looked = {}, 0
        for piece in self.pieces:
            exec(piece, names)
            for row in piece.split("\n"):
                found = re.fullmatch(r"([^=#]*[^ =#]) +# ([\[('0-9N].*|True.*|False)", row)
                if found:
                    told = re.match(r"(?:(?!: |, the |, made | and 3).)*", found.group(2)).group()
                    try:
                        value = eval(told, {})
                    except (SyntaxError, NameError):
                        continue
                    self.assertEqual(eval(found.group(1), names), value, row)
                    looked += 1
        self.assertGreater(looked, 10)

    def test_each_file_is_named(self):
        for name in sorted(os.listdir(os.path.join(TOP, "restcounts"))):
            if name.endswith(".py") and not name.startswith("__"):
                self.assertIn(f"`{name}`", self.text)


if __name__ == "__main__":
    unittest.main()
