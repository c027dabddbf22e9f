"""Slot code: rows that write into slots, and the slots of the answers."""

from unseenslopes.errors import InvalidRow, UnlikeWorlds
from unseenslopes.grounds import FormGround, RatioGround
from unseenslopes.holding import answer_worths
from unseenslopes.rows import answers_text, is_row, is_slot, reads_of, row_text


def check_code(world, code_rows, answers):
    """Raises InvalidRow for the first fault of the lists that are to be a code."""
    written = {}
    for index, row in enumerate(code_rows):
        if not is_row(world, row) or not all([slot in written for slot in reads_of(row)]):
            raise InvalidRow(index)
        written[row[0]] = True
    for slot in answers:
        if not is_slot(slot) or slot not in written:
            raise InvalidRow(len(code_rows))


class Code:
    """Rows and the slots of the answers; it does not change."""

    def __init__(self, world, code_rows, answers):
        check_code(world, code_rows, answers)
        self.world = world
        self._rows = list(code_rows)
        self._slots = list(answers)
        pieces = [row_text(row) for row in self._rows]
        self.text = "; ".join([*pieces, answers_text(self._slots)])

    def listing(self):
        """The list of the rows."""
        return list(self._rows)

    def answer_slots(self):
        """The list of the slots of the answers."""
        return list(self._slots)

    @property
    def width(self):
        """One more than the greatest slot; 0 without rows."""
        return max([row[0] for row in self._rows], default=-1) + 1

    def forms(self):
        """The list of the forms of the answers."""
        return answer_worths(FormGround(self.world), self)

    def numbers(self, witness):
        """The list of the Ratios of the answers at a witness."""
        if witness.world != self.world:
            raise UnlikeWorlds()
        return answer_worths(RatioGround(witness), self)

    def __len__(self):
        return len(self._rows)

    def __eq__(self, other):
        return isinstance(other, Code) and self.world == other.world and self.text == other.text

    def __str__(self):
        return f"{self.text}"

    def __repr__(self):
        return f"Code({len(self._rows)} rows)"
