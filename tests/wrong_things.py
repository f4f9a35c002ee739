"""Memories, inputs and calls of each wrong kind and length."""

NO_WORDS = (-1, 65536, 10 ** 30, True, False, None, "0", "", 1.0, (), [], (0,), {})
NO_LISTS = (0, 5, True, False, "", "abcd", {}, {0: 0, 1: 0, 2: 0, 3: 0}, {1, 2, 3, 4}, 1.5, range(4), object(),
            b"abcd", iter([0, 0, 0, 0]))
MEMORIES = (
    [None] + list(NO_LISTS) + [[0] * many for many in (0, 1, 2, 3, 5, 6, 7, 9, 62, 63, 65, 66, 68, 72)]
    + [(0,) * many for many in (0, 3, 5, 68)] + [[0, 0, 0, wrong] for wrong in NO_WORDS]
    + [(wrong, 0, 0, 0) for wrong in NO_WORDS] + [[0] * 63 + [wrong] for wrong in NO_WORDS]
)
INPUTS = (
    list(NO_LISTS) + [[0] * many for many in (61, 62, 64, 1000)] + [(0,) * 61]
    + [[wrong] for wrong in NO_WORDS] + [(0, wrong) for wrong in NO_WORDS] + [[0] * 59 + [wrong] for wrong in NO_WORDS]
)
CALLS = (
    list(NO_LISTS) + [[(0, 0)] * 21, ((0, 0),) * 21, [(1, 0), (0, 0)], [(0, 0), (5, 1), (4, 1)]]
    + [[(0, wrong)] for wrong in (-1, 16, 10 ** 30, True, False, None, "0", 1.0, (), [])]
    + [[(wrong, 0)] for wrong in (-1, -10 ** 30, True, False, None, "0", 1.0, (), [])]
    + [[wrong] for wrong in (None, 0, 5, True, "ab", (), (0,), (0, 0, 0), [0], [0, 0, 0], {}, {0: 0, 1: 1}, {0, 1})]
    + [[(0, 0), wrong] for wrong in (None, (True, 0), (0, True), (0, 16), "00")]
    + [(0, 0), [0, 0]]
)
