"""Codes of 24 bits, and the rows that they stand for."""

from rowmill.bits import bits_of, signed, with_bits
from rowmill.jumps import Go, Jump, Link, Zero
from rowmill.others import Aim, Ask, Home, Tell, Where, Why
from rowmill.rows import Load, Num, Pair, Plus, Stop, Store

OPS = (
    "stop", "num", "plus", "add", "sub", "mul", "div", "rest", "and", "or", "xor", "up", "down", "low", "same",
    "load", "store", "jump", "zero", "link", "go", "ask", "tell", "why", "where", "aim", "home",
)

# What a row tells behind its word, a letter each: the boxes a, b and c, a number n,
# a number s that may be below nought, a goal g.
FORMS = {
    "stop": "", "num": "an", "plus": "abs",
    "add": "abc", "sub": "abc", "mul": "abc", "div": "abc", "rest": "abc", "and": "abc",
    "or": "abc", "xor": "abc", "up": "abc", "down": "abc", "low": "abc", "same": "abc",
    "load": "abs", "store": "abs",
    "jump": "g", "zero": "ag", "link": "ag", "go": "a",
    "ask": "a", "tell": "a", "why": "a", "where": "a", "aim": "a", "home": "",
}

# For each such letter its lowest bit in a code, and how many bits it has.
BITS = {"a": (16, 3), "b": (13, 3), "c": (10, 3), "n": (0, 10), "s": (0, 10), "g": (0, 10)}


def make_stop(word, things):
    return Stop()


def make_num(word, things):
    return Num(things[0], things[1])


def make_plus(word, things):
    return Plus(things[0], things[1], things[2])


def make_pair(word, things):
    return Pair(word, things[0], things[1], things[2])


def make_load(word, things):
    return Load(things[0], things[1], things[2])


def make_store(word, things):
    return Store(things[0], things[1], things[2])


def make_jump(word, things):
    return Jump(things[0])


def make_zero(word, things):
    return Zero(things[0], things[1])


def make_link(word, things):
    return Link(things[0], things[1])


def make_go(word, things):
    return Go(things[0])


def make_ask(word, things):
    return Ask(things[0])


def make_tell(word, things):
    return Tell(things[0])


def make_why(word, things):
    return Why(things[0])


def make_where(word, things):
    return Where(things[0])


def make_aim(word, things):
    return Aim(things[0])


def make_home(word, things):
    return Home()


MAKERS = {
    "stop": make_stop, "num": make_num, "plus": make_plus,
    "add": make_pair, "sub": make_pair, "mul": make_pair, "div": make_pair, "rest": make_pair, "and": make_pair,
    "or": make_pair, "xor": make_pair, "up": make_pair, "down": make_pair, "low": make_pair, "same": make_pair,
    "load": make_load, "store": make_store,
    "jump": make_jump, "zero": make_zero, "link": make_link, "go": make_go,
    "ask": make_ask, "tell": make_tell, "why": make_why, "where": make_where, "aim": make_aim, "home": make_home,
}


def row_made(word, things):
    return MAKERS[word](word, things)


def part_of(code, letter):
    bits = BITS[letter]
    part = bits_of(code, bits[0], bits[1])
    if letter == "s":
        return signed(part, bits[1])
    return part


def code_of(row):
    told = row.told()
    word = told[0]
    code = with_bits(0, 19, 5, OPS.index(word))
    for letter, part in zip(FORMS[word], told[1:]):
        bits = BITS[letter]
        code = with_bits(code, bits[0], bits[1], part)
    return code


def row_of(code):
    op = bits_of(code, 19, 5)
    if op >= len(OPS):
        return None
    word = OPS[op]
    row = row_made(word, [part_of(code, letter) for letter in FORMS[word]])
    # Whatever stands where the row has nothing is lost in the row, so the code doesn't come back.
    if code_of(row) != code:
        return None
    return row
