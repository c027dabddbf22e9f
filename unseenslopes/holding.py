"""What slots hold while rows write into them: forms, or Ratios at a witness."""

from unseenslopes.rows import reads_of


def held_worths(ground, rows):
    """The dict from slots to what they hold behind all rows, numbers of a ground."""
    held = {}
    for row in rows:
        held[row[0]] = row_worth(ground, row, [held[slot] for slot in reads_of(row)])
    return held


def row_worth(ground, row, given):
    """What a row writes, from what the slots hold that it reads."""
    word = row[1]
    if word == "in":
        return ground.input_number(row[2])
    if word == "put":
        return ground.number(row[2])
    if word == "add":
        return given[0] + given[1]
    if word == "sub":
        return given[0] - given[1]
    if word == "mul":
        return given[0] * given[1]
    orders = (row[3],) if word == "one" else row[3]
    return ground.value_of(row[2], orders, tuple(given))
