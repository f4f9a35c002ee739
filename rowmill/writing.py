"""Programs written as texts."""

from rowmill.codes import FORMS, row_of


def thing_text(letter, thing):
    if letter in "abc":
        return f"r{thing}"
    return str(thing)


def row_text(row):
    told = row.told()
    things = [thing_text(letter, thing) for letter, thing in zip(FORMS[told[0]], told[1:])]
    return " ".join([told[0]] + things)


def code_text(code):
    row = row_of(code)
    if row is None:
        return f"code {code}"
    return row_text(row)


def written(program):
    rows = [code_text(code) for code in program.codes]
    if program.hall is not None:
        hall = program.hall
        rows = [f"hall {hall}"] + rows
    return "".join([f"{row}\n" for row in rows])
