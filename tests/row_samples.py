"""Rows of every op, with boxes and numbers at their bounds, for the tests of codes and of texts."""

from itertools import product

from rowmill.jumps import Go, Jump, Link, Zero
from rowmill.others import Aim, Ask, Home, Tell, Where, Why
from rowmill.rows import Load, Num, Pair, Plus, Stop, Store

PAIR_WORDS = ("add", "sub", "mul", "div", "rest", "and", "or", "xor", "up", "down", "low", "same")
BOXES = tuple(range(8))
NUMBERS = (0, 1, 2, 511, 512, 1022, 1023)
SIGNED = (-512, -511, -2, -1, 0, 1, 510, 511)

# For each op its word, the names of the parts that its code has, and how such a row is made of them.
OPS = (
    [("stop", "", lambda: Stop()), ("num", "an", lambda a, n: Num(a, n)), ("plus", "abs", lambda a, b, n: Plus(a, b, n))]
    + [(word, "abc", lambda a, b, c, word=word: Pair(word, a, b, c)) for word in PAIR_WORDS]
    + [
        ("load", "abs", lambda a, b, n: Load(a, b, n)), ("store", "abs", lambda a, b, n: Store(a, b, n)),
        ("jump", "n", lambda n: Jump(n)), ("zero", "an", lambda a, n: Zero(a, n)),
        ("link", "an", lambda a, n: Link(a, n)), ("go", "a", lambda a: Go(a)),
        ("ask", "a", lambda a: Ask(a)), ("tell", "a", lambda a: Tell(a)), ("why", "a", lambda a: Why(a)),
        ("where", "a", lambda a: Where(a)), ("aim", "a", lambda a: Aim(a)), ("home", "", lambda: Home()),
    ]
)
WORTH = {"a": 65536, "b": 8192, "c": 1024, "n": 1, "s": 1}
VALUES = {"a": BOXES, "b": BOXES, "c": BOXES, "n": NUMBERS, "s": SIGNED}


def samples(op):
    """(row, what it tells, its code) for all boxes and for numbers at their bounds."""
    word, letters, make = OPS[op]
    for things in product(*[VALUES[letter] for letter in letters]):
        code = op * 524288 + sum(WORTH[letter] * (thing % 1024) for letter, thing in zip(letters, things))
        yield make(*things), (word,) + things, code


def all_samples():
    return [sample for op in range(27) for sample in samples(op)]


def spare_bits(op):
    """The bits that are 0 in the code of every row of this op."""
    bits = {"a": range(16, 19), "b": range(13, 16), "c": range(10, 13), "n": range(10), "s": range(10)}
    used = [bit for letter in OPS[op][1] for bit in bits[letter]]
    return [bit for bit in range(19) if bit not in used]
