"""What README.md says of the program holds: each line of its code with a remark is done and tells that."""

import ast
import pathlib
import re
import unittest

README = pathlib.Path(__file__).resolve().parent.parent / "README.md"


def told_lines(block):
    """(all lines ahead, an expression, its remark) for each line `expression  # remark` that gives no name a value."""
    lines = block.split("\n")
    for number, line in enumerate(lines):
        found = re.match(r"([^#]+?)\s{2,}# (.+)$", line)
        if found and not re.match(r"\s|\w+ = ", line):
            yield "\n".join(lines[:number]), found[1], found[2]


def value_told(remark):
    """A remark is a value, or a value and behind `: ` why it is that."""
    for cut in [len(remark)] + [found.start() for found in re.finditer(": ", remark)]:
        try:
            return ast.literal_eval(remark[:cut])
        except SyntaxError:
            continue
    raise AssertionError(f"no value in {remark}")


class Readme(unittest.TestCase):
    def test_what_each_line_tells(self):
        checked = 0
        for block in re.findall(r"```python\n(.*?)```", README.read_text(), re.S):
            for ahead, expression, remark in told_lines(block):
                names = {}
                exec(ahead, names)
                with self.subTest(expression):
                    self.assertEqual(eval(expression, names), value_told(remark))
                checked += 1
        self.assertGreater(checked, 20)


if __name__ == "__main__":
    unittest.main()
