"""What the tests of rows, of jumps and of the others ask alike."""

from rowmill.rows import Row

FIELDS = ("a", "b", "c", "n", "word")


def fields_of(row):
    return {name: getattr(row, name) for name in FIELDS if hasattr(row, name)}


def answers_of(row, words, place):
    """All that a row tells, asked with its words as a tuple and as a list."""
    listed = list(words)
    answers = {
        "told": row.told(),
        "reads": row.reads(),
        "gives": row.gives(),
        "known": row.known(),
        "alone": row.alone(),
        "long": row.long(),
        "reckoned": row.reckoned(words, place),
        "goal": row.goal(words, place),
    }
    if (row.reckoned(listed, place), row.goal(listed, place)) != (answers["reckoned"], answers["goal"]):
        raise AssertionError("a list of words is answered otherwise than a tuple")
    if listed != list(words):
        raise AssertionError("the words handed in were changed")
    return answers


def check_row(case, row, fields, words, place, **asked):
    """Each field and each answer; what isn't named is that of a row that does nothing."""
    wanted = {
        "reads": (), "gives": None, "known": None, "alone": False, "long": 1, "reckoned": 0, "goal": place + 1,
    }
    wanted.update(asked)
    case.assertIsInstance(row, Row)
    case.assertEqual(fields_of(row), fields)
    answers = answers_of(row, words, place)
    case.assertEqual(answers, wanted)
    case.assertIs(answers["alone"], wanted["alone"])
    for name in ("told", "reads"):
        case.assertIs(type(answers[name]), tuple)
    for name in ("long", "goal"):
        case.assertIs(type(answers[name]), int)
    case.assertEqual(answers_of(row, words, place), answers)
