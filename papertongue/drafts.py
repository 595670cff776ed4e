"""Drafts: a text with changes to it by several hands, each of them open, taken or left."""

from papertongue.changes import all_clashes, changed_text, clash_row, refuse_changes
from papertongue.changetexts import show_change
from papertongue.errors import Clash, NoNumber, NoRows
from papertongue.rows import show_row
from papertongue.texts import Text
from papertongue.things import is_tuple, is_whole

OPEN = "open"
TAKEN = "taken"
LEFT = "left"
# The line between a Draft's elder Text and its changes.
PARTING = "====="


class Draft:
    """A text and changes to it, which changes by what is taken, left and opened again alone."""

    def __init__(self, text, changes=()):
        if type(text) != Text:
            raise NoRows(None)
        refuse_changes(text.rows, changes)
        self.elder_text = text
        self.changes = changes
        self.states = [OPEN] * len(changes)

    def take(self, number):
        """Take the change of this number."""
        self._take_each((number,))

    def leave(self, number):
        """Leave the change of this number."""
        self._refuse_number(number)
        self.states[number] = LEFT

    def open_again(self, number):
        """Open the change of this number again."""
        self._refuse_number(number)
        self.states[number] = OPEN

    def take_all(self, numbers):
        """Take the changes of these numbers, all or none."""
        if not is_tuple(numbers):
            raise NoNumber(None)
        self._take_each(numbers)

    def state(self):
        """`open`, `taken` or `left` of each change."""
        return tuple(self.states)

    def text(self):
        """The Text by those changes that are taken."""
        return changed_text(self.elder_text.rows, self.changes, self.taken_numbers())

    def elder(self):
        """The Text without any change."""
        return self.elder_text

    def newer(self):
        """The Text by all changes that aren't left."""
        numbers = [number for number, state in enumerate(self.states) if state != LEFT]
        for one, other, row in all_clashes(self.changes):
            if one in numbers and other in numbers:
                raise Clash(one, other, row)
        return changed_text(self.elder_text.rows, self.changes, numbers)

    def clashes(self):
        """All (ONE, OTHER, ROW) of changes that can't stand together, rising."""
        return all_clashes(self.changes)

    def taken_numbers(self):
        """The numbers of those changes that are taken, rising."""
        return tuple([number for number, state in enumerate(self.states) if state == TAKEN])

    def _take_each(self, numbers):
        states = list(self.states)
        for number in numbers:
            self._refuse_number(number)
            if states[number] != TAKEN:
                self._refuse_clash(number, states)
                states[number] = TAKEN
        self.states = states

    def _refuse_number(self, number):
        """Refuse what is no number of a change."""
        if not is_whole(number, 0, len(self.changes) - 1):
            raise NoNumber(number)

    def _refuse_clash(self, number, states):
        """Refuse a change with which one clashes that is taken by these states."""
        for other, state in enumerate(states):
            if state == TAKEN:
                row = clash_row(self.changes[number][1], self.changes[other][1])
                if row is not None:
                    raise Clash(min(number, other), max(number, other), row)

    def __eq__(self, other):
        return (
            isinstance(other, Draft) and self.elder_text == other.elder_text and self.changes == other.changes
            and self.states == other.states)

    def __len__(self):
        return len([state for state in self.states if state == OPEN])

    def __str__(self):
        lines = [show_row(row) for row in self.elder_text.rows] + [PARTING]
        return "\n".join(lines + [f"{state} {show_change(change)}" for state, change in zip(self.states, self.changes)])

    def __repr__(self):
        return f"Draft({len(self.changes)})"


def draft_in(text, changes, states):
    """The Draft of a Text and CHANGES that are in these states."""
    draft = Draft(text, changes)
    for number, state in enumerate(states):
        if state == TAKEN:
            draft.take(number)
        elif state == LEFT:
            draft.leave(number)
    return draft
