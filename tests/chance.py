"""Programs, memories, inputs and calls by a seeded chance, for the tests that hold one machine against another."""

from rowmill.codes import code_of
from rowmill.programs import Program
from tests.row_samples import OPS

# How often each word comes: those that end a run seldom, those that reach memory and jump often.
WEIGHTS = {"stop": 1, "num": 8, "plus": 8, "load": 10, "store": 10, "jump": 4, "zero": 8, "link": 4, "go": 2,
           "ask": 3, "tell": 4, "why": 2, "where": 2, "aim": 2, "home": 4, "div": 3, "rest": 2, "mul": 3}


def some_row(chance, rows, boxes, cells):
    op = chance.choices(range(27), [WEIGHTS.get(word, 2) for word, _, _ in OPS])[0]
    word, letters, make = OPS[op]
    things = []
    for letter in letters:
        if letter in "abc":
            things.append(chance.randrange(boxes))
        elif letter == "s":
            things.append(chance.choice((0, 1, 2, 4, -1, -4, chance.randrange(cells), chance.randrange(-512, 512))))
        elif word == "num":
            things.append(chance.choice((0, 1, 2, 3, chance.randrange(cells), chance.randrange(rows + 1),
                                         chance.randrange(1024))))
        else:
            things.append(chance.choice((chance.randrange(rows), chance.randrange(rows), chance.randrange(rows + 2))
                                        + (chance.randrange(1024),) * (chance.random() < 0.1)))
    return make(*things)


def some_program(chance, cells):
    many = chance.choice((1, 2, 4, 8, 12, 16, 24, 40, 63, 64))
    boxes = chance.choice((2, 3, 4, 8))
    codes = [code_of(some_row(chance, many, boxes, cells)) for _ in range(many)]
    if chance.random() < 0.2:
        codes[chance.randrange(many)] = chance.choice((1, 16777215, chance.randrange(16777216)))
    hall = None if chance.random() < 0.25 else chance.randrange(many)
    if hall is not None and chance.random() < 0.8:
        put_hall(chance, codes, hall)
    return Program(codes, hall)


def put_hall(chance, codes, hall):
    """A hall that comes home behind the row that faulted, so that a run goes on for long."""
    texts = (("where", 1), ("plus", 1, 1, 1), ("aim", 1), ("home",))
    if chance.random() < 0.3:
        texts = (("why", 1),) + texts
    for place, told in enumerate(texts, start=hall):
        if place < len(codes):
            codes[place] = code_of(OPS[[word for word, _, _ in OPS].index(told[0])][2](*told[1:]))


def some_memory(chance):
    many = 4 * chance.choice((1, 2, 3, 4, 8, 16))
    return [chance.choice((0, 1, 2, many - 1, many, 65535, chance.randrange(65536))) for _ in range(many)]


def some_inputs(chance):
    return [chance.choice((0, 1, 65535, chance.randrange(64))) for _ in range(chance.choice((0, 1, 3, 60)))]


def some_calls(chance, steps):
    many = chance.choice((0, 0, 1, 3, 20))
    return [(step, chance.randrange(16)) for step in sorted(chance.randrange(steps) for _ in range(many))]
