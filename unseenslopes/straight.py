"""Straight rows: each slot is written once, and is the index of its row."""

from unseenslopes.rows import moved_row, reads_of


def straight(code):
    """The tuple of the rows of a code, made straight, and of the indexes of those that write its answers."""
    places = {}
    rows = []
    for row in code.listing():
        rows.append(moved_row(row, len(rows), places))
        places[row[0]] = len(rows) - 1
    return rows, [places[slot] for slot in code.answer_slots()]


def trimmed(rows, answers):
    """The tuple of straight rows and answers without the rows that are not read, by rows that stay or as answers."""
    needed = {answer: True for answer in answers}
    for row in rows[::-1]:
        if row[0] in needed:
            needed.update({slot: True for slot in reads_of(row)})
    places = {}
    kept = []
    for row in rows:
        if row[0] in needed:
            places[row[0]] = len(kept)
            kept.append(moved_row(row, len(kept), places))
    return kept, [places[answer] for answer in answers]


def last_uses(rows, answers):
    """The list of the indexes of the last row up to which what a straight row writes is kept."""
    lasts = [row[0] for row in rows]
    for row in rows:
        for slot in reads_of(row):
            lasts[slot] = row[0]
    for answer in answers:
        lasts[answer] = len(rows)
    return lasts


def ended_by(row, lasts):
    """The list of the straight rows whose values a row reads last."""
    return [slot for slot in sorted(set(reads_of(row))) if lasts[slot] == row[0]]
