"""What rows write: forms, or Ratios at a witness."""

from unseenslopes.rows import reads_of
from unseenslopes.straight import ended_by, last_uses, straight, trimmed


def row_worths(ground, rows):
    """The list of what straight rows write, numbers of a ground."""
    worths = []
    for row in rows:
        worths.append(row_worth(ground, row, [worths[slot] for slot in reads_of(row)]))
    return worths


def answer_worths(ground, code):
    """The list of the answers of a code, numbers of a ground.

    What is not read any more is not held: the texts of forms may be long.
    """
    every, slots = straight(code)
    rows, answers = trimmed(every, slots)
    lasts = last_uses(rows, answers)
    held = {}
    for row in rows:
        held[row[0]] = row_worth(ground, row, [held[slot] for slot in reads_of(row)])
        for slot in ended_by(row, lasts):
            del held[slot]
    return [held[answer] for answer in answers]


def row_worth(ground, row, given):
    """What a row writes, from what the slots hold that it reads."""
    word = row[1]
    if word == "in":
        return ground.input_number(row[2])
    if word == "put":
        return ground.number(row[2])
    if word == "add":
        return given[0] + given[1]
    if word == "sub":
        return given[0] - given[1]
    if word == "mul":
        return given[0] * given[1]
    orders = (row[3],) if word == "one" else row[3]
    return ground.value_of(row[2], orders, tuple(given))
