"""The way back through slot code, from an answer to its slopes by all inputs.

Each row that an answer hangs on is led back, the last one first: the slope of the answer by what
it writes is known by then, and gives a share to the slope by each slot that it reads. Slopes are
kept by rows, that by an input is kept by its name.
"""

from unseenslopes.codes import Code
from unseenslopes.errors import InvalidNumber, InvalidRow
from unseenslopes.ratios import is_integer
from unseenslopes.rows import MOST_SLOPES, reads_of
from unseenslopes.straight import straight, trimmed
from unseenslopes.tape import Tape


def way_back(code, index=0):
    """The code whose answers are the slopes of an answer by all inputs."""
    rows, answers = straight(code)
    if not is_integer(index) or not 0 <= index < len(answers):
        raise InvalidNumber(index)
    for row in rows:
        if has_most_slopes(row):
            raise InvalidRow(row[0])
    tape = Tape(rows)
    slopes = {answers[index]: tape.number_slot(1)}
    for row in rows[::-1]:
        if row[0] in slopes:
            lead_back(tape, slopes, row)
    found = [slopes[name] if name in slopes else tape.number_slot(0) for name in code.world.inputs()]
    kept, kept_answers = trimmed(tape.rows, found)
    return Code(code.world, kept, kept_answers)


def has_most_slopes(row):
    """Whether a row has an unseen function of which no further slope by an argument can be written."""
    if row[1] == "one":
        return row[3] == MOST_SLOPES
    return row[1] == "two" and MOST_SLOPES in row[3]


def lead_back(tape, slopes, row):
    """Adds to the slopes what a row gives to them."""
    word = row[1]
    slope = slopes[row[0]]
    reads = reads_of(row)
    if word == "in":
        give(tape, slopes, row[2], slope)
    elif word == "add":
        give(tape, slopes, reads[0], slope)
        give(tape, slopes, reads[1], slope)
    elif word == "sub":
        give(tape, slopes, reads[0], slope)
        take(tape, slopes, reads[1], slope)
    elif word == "mul":
        give(tape, slopes, reads[0], tape.slot_of("mul", slope, reads[1]))
        give(tape, slopes, reads[1], tape.slot_of("mul", slope, reads[0]))
    else:
        for argument, read in enumerate(reads):
            give(tape, slopes, read, tape.slot_of("mul", slope, raised_slot(tape, row, argument)))


def raised_slot(tape, row, argument):
    """The slot of the unseen function of a row, with one more slope by an argument."""
    if row[1] == "one":
        return tape.slot_of("one", row[2], row[3] + 1, row[4])
    one, other = row[3]
    orders = (one + 1, other) if argument == 0 else (one, other + 1)
    return tape.slot_of("two", row[2], orders, row[4], row[5])


def give(tape, slopes, target, slot):
    """Adds what a slot holds to a slope."""
    slopes[target] = tape.slot_of("add", slopes[target], slot) if target in slopes else slot


def take(tape, slopes, target, slot):
    """Takes what a slot holds from a slope."""
    slopes[target] = tape.slot_of("sub", slopes[target] if target in slopes else tape.number_slot(0), slot)
