"""Slot code with fewer rows, or with fewer slots."""

from heapq import heappop, heappush

from unseenslopes.codes import Code
from unseenslopes.grounds import FormGround
from unseenslopes.holding import row_worths
from unseenslopes.rows import moved_row
from unseenslopes.straight import ended_by, last_uses, straight, trimmed


def shared(code):
    """The code without the rows whose form an earlier one writes, and without those that are not read."""
    rows, answers = straight(code)
    forms = row_worths(FormGround(code.world), rows)
    firsts = {}
    for row in rows:
        firsts.setdefault(forms[row[0]].text, row[0])
    places = [firsts[forms[row[0]].text] for row in rows]
    moved = [moved_row(row, row[0], places) for row in rows]
    kept, kept_answers = trimmed(moved, [places[answer] for answer in answers])
    return Code(code.world, kept, kept_answers)


def alive_counts(code):
    """The list of the numbers of values that are kept behind each row, its own one always counted."""
    rows, answers = straight(code)
    lasts = last_uses(rows, answers)
    counts = []
    many = 0
    for row in rows:
        many = many - len(ended_by(row, lasts)) + 1
        counts.append(many)
        if lasts[row[0]] == row[0]:
            many = many - 1
    return counts


def packed(code):
    """The code with the same rows and as few slots as there can be."""
    rows, answers = straight(code)
    lasts = last_uses(rows, answers)
    places = {}
    kept = []
    free = []
    width = 0
    for row in rows:
        for slot in ended_by(row, lasts):
            heappush(free, places[slot])
        if not free:
            heappush(free, width)
            width += 1
        place = heappop(free)
        kept.append(moved_row(row, place, places))
        places[row[0]] = place
        if lasts[row[0]] == row[0]:
            heappush(free, place)
    return Code(code.world, kept, [places[answer] for answer in answers])
