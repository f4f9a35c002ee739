"""Words: numbers from 0 to 65535; what they are, and what is reckoned of them by its rest by 65536."""

WORDS = 65536
LAST_WORD = 65535


def is_number(thing):
    return isinstance(thing, int) and not isinstance(thing, bool)


def is_within(thing, low, high):
    return is_number(thing) and low <= thing <= high


def is_word(thing):
    return is_within(thing, 0, LAST_WORD)


def is_listed(thing):
    return isinstance(thing, (list, tuple))


def as_word(number):
    return number % WORDS


def added(b, c):
    return as_word(b + c)


def less(b, c):
    return as_word(b - c)


def times(b, c):
    return as_word(b * c)


def whole_part(b, c):
    if c == 0:
        return None
    return b // c


def rest(b, c):
    if c == 0:
        return None
    return b % c


def both(b, c):
    return b & c


def either(b, c):
    return b | c


def one_only(b, c):
    return b ^ c


def moved_up(b, c):
    return as_word(b << (c % 16))


def moved_down(b, c):
    return b >> (c % 16)


def is_low(b, c):
    return 1 if b < c else 0


def is_same(b, c):
    return 1 if b == c else 0


WAYS = {
    "add": added,
    "sub": less,
    "mul": times,
    "div": whole_part,
    "rest": rest,
    "and": both,
    "or": either,
    "xor": one_only,
    "up": moved_up,
    "down": moved_down,
    "low": is_low,
    "same": is_same,
}


def paired(word, b, c):
    return WAYS[word](b, c)
