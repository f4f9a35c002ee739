"""What README.md says of the program holds: each line of its code with a remark is done and told so."""

import pathlib
import re
import unittest

README = pathlib.Path(__file__).resolve().parent.parent / "README.md"


def told_lines(block):
    """(all lines ahead, an expression, what it tells) for each line `expression   # what it tells`."""
    lines = block.split("\n")
    for number, line in enumerate(lines):
        found = re.match(r"(?P<expression>[^#=]+(\([^#]*\))[^#=]*?)\s{2,}# (?P<told>.+)$", line)
        if found:
            yield "\n".join(lines[:number]), found["expression"], found["told"]


class Readme(unittest.TestCase):
    def test_what_each_line_tells(self):
        blocks = re.findall(r"```python\n(.*?)```", README.read_text(), re.S)
        self.assertTrue(blocks)
        checked = 0
        for block in blocks:
            for ahead, expression, told in told_lines(block):
                names = {}
                exec(ahead, names)
                value = eval(expression, names)
                with self.subTest(expression):
                    self.assertTrue(told == repr(value) or told.startswith(repr(value) + ": ")
                                    or eval(told.split(": ")[0]) == value)
                checked += 1
        self.assertGreater(checked, 5)


if __name__ == "__main__":
    unittest.main()
