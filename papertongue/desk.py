"""The desk: texts and changes kept, and questions of them answered, by lines of words."""

from papertongue.changes import MOST_CHANGES, is_change
from papertongue.changetexts import read_change
from papertongue.checker import holds
from papertongue.documents import Document
from papertongue.drafts import OPEN, draft_in
from papertongue.errors import NoChanges, NoLine
from papertongue.numbers import number_of, numbers
from papertongue.papers import paper_printed
from papertongue.printing import printed
from papertongue.reading import read_parts, text_of
from papertongue.rows import show_row
from papertongue.things import is_text
from papertongue.tokens import is_name

MAIN = "main"
DONE = "ok"
NONE_THERE = "none"
SIZE_FORMS = {"plain": (), "screen": ("number",), "pages": ("number", "number")}

# Each answer is told of a desk and all words of a line, None where these aren't as the line must be: it looks at
# the words ahead of all else, so that nothing has changed then.


def _answer_text(desk, words):
    if len(words) != 2 or not is_name(words[1]):
        return None
    desk.texts.setdefault(words[1], [])
    desk.in_hand = words[1]
    return DONE


def _answer_row(desk, words):
    if len(words) == 1:
        return None
    desk.texts[desk.in_hand].append(" ".join(words[1:]))
    return DONE


def _answer_gone(desk, words):
    if len(words) != 1:
        return None
    lines = desk.texts[desk.in_hand]
    if lines:
        lines.pop()
    return DONE


def _answer_change(desk, words):
    change = read_change(words[1:])
    if change is None:
        return None
    elder = text_of(desk.texts[MAIN])
    if len(desk.changes) == MOST_CHANGES:
        raise NoChanges(None)
    if not is_change(elder.rows, change):
        raise NoChanges(len(desk.changes))
    desk.changes.append(change)
    desk.states.append(OPEN)
    return DONE


def _answer_take(desk, words):
    parts = read_parts(words[1:], ("number",))
    if parts is None:
        return None
    draft = _draft_of(desk)
    draft.take(parts[0])
    desk.states = list(draft.state())
    return DONE


def _answer_leave(desk, words):
    parts = read_parts(words[1:], ("number",))
    if parts is None:
        return None
    draft = _draft_of(desk)
    draft.leave(parts[0])
    desk.states = list(draft.state())
    return DONE


def _answer_keep(desk, words):
    if len(words) != 1:
        return None
    newer = _draft_of(desk).text()
    desk.texts[MAIN] = [show_row(row) for row in newer.rows]
    desk.changes = []
    desk.states = []
    return DONE


def _answer_printing(desk, words):
    size = _size_of(words)
    return None if size is None else _in_one_line(printed(_document_of(desk), size))


def _answer_place(desk, words):
    size = _size_of(words[2:])
    if size is None:
        return None
    place = printed(_document_of(desk), size).stands(words[1])
    return "nowhere" if place is None else str(place)


def _answer_number(desk, words):
    return number_of(_document_of(desk), words[1]) if len(words) == 2 else None


def _answer_numbers(desk, words):
    if len(words) != 1:
        return None
    return _listed([f"{row}:{number}" for row, _, _, number in numbers(_document_of(desk))])


def _answer_clashes(desk, words):
    if len(words) != 1:
        return None
    return _listed([f"{one}-{other}" for one, other, _ in _draft_of(desk).clashes()])


def _answer_draft(desk, words):
    return _in_one_line(_draft_of(desk)) if len(words) == 1 else None


def _answer_paper(desk, words):
    size = _size_of(words[1:])
    if size is None:
        return None
    claim, paper = paper_printed(_document_of(desk), size)
    return "holds" if holds(claim, paper) else "no"


ANSWERS = {
    "text": _answer_text, "row": _answer_row, "gone": _answer_gone, "change": _answer_change, "take": _answer_take,
    "leave": _answer_leave, "keep": _answer_keep, "plain": _answer_printing, "screen": _answer_printing,
    "pages": _answer_printing, "place": _answer_place, "number": _answer_number, "numbers": _answer_numbers,
    "clashes": _answer_clashes, "draft": _answer_draft, "paper": _answer_paper,
}


class Desk:
    """Texts, each with its lines, and changes to the one called `main`, each with its state."""

    def __init__(self):
        self.texts = {MAIN: []}
        self.in_hand = MAIN
        self.changes = []
        self.states = []

    def say(self, line):
        """Answer a line of words with a text."""
        words = line.split(" ") if is_text(line) else [""]
        if "" in words or words[0] not in ANSWERS:
            raise NoLine(line)
        answer = ANSWERS[words[0]]
        told = answer(self, words)
        if told is None:
            raise NoLine(line)
        return told


def _size_of(words):
    """The SIZE, or what would be one, that the words tell; None where they tell none."""
    if len(words) == 0 or words[0] not in SIZE_FORMS:
        return None
    parts = read_parts(words[1:], SIZE_FORMS[words[0]])
    return None if parts is None else (words[0],) + parts


def _document_of(desk):
    """The Document of the desk's texts, `main` first."""
    return Document(tuple([(name, text_of(lines)) for name, lines in desk.texts.items()]))


def _draft_of(desk):
    """The Draft of `main` and all changes."""
    return draft_in(text_of(desk.texts[MAIN]), tuple(desk.changes), desk.states)


def _in_one_line(thing):
    """A Draft or a Printing as a text in one line."""
    return str(thing).replace("\n", " / ")


def _listed(words):
    """The words with blanks between."""
    return " ".join(words) if words else NONE_THERE
