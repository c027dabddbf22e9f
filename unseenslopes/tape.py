"""Rows that are written one behind the other."""

from unseenslopes.ratios import ratio_of
from unseenslopes.rows import deed_text


class Tape:
    """Straight rows; what one of them does already is not done by a new one."""

    def __init__(self, rows):
        self.rows = list(rows)
        self.places = {}
        for row in rows:
            self.places.setdefault(deed_text(row), row[0])

    def slot_of(self, word, *items):
        """The slot of the row with a word and what belongs to it; it is written if there is none."""
        row = (len(self.rows), word, *items)
        text = deed_text(row)
        if text not in self.places:
            self.places[text] = len(self.rows)
            self.rows.append(row)
        return self.places[text]

    def number_slot(self, number):
        """The slot of the row that puts an integer or a Ratio."""
        return self.slot_of("put", ratio_of(number))
