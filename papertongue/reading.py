"""The plain form read: the ROWs of which lines of words tell."""

from papertongue.errors import NoText
from papertongue.rows import ROW_PARTS, is_row
from papertongue.standing import Standing
from papertongue.texts import MOST_ROWS, Text
from papertongue.things import is_text

FIGURES = "0123456789"
# No number that stands anywhere has more figures, and Python reads none of some thousands.
MOST_FIGURES = 9
PASSED_OVER = ".."
TOKEN_FORMS = ("tokens", "bare", "plain")


def read_text(text):
    """The Text of which the lines of a text tell."""
    if not is_text(text):
        raise NoText(0)
    return text_of(text.split("\n"))


def text_of(lines):
    """The Text of which these lines tell."""
    standing = Standing()
    rows = []
    for number, line in enumerate(lines):
        words = words_of(line)
        if words:
            row = read_row(words)
            if row is None or len(rows) == MOST_ROWS or not standing.takes(row):
                raise NoText(number)
            rows.append(row)
    if not standing.is_closed():
        raise NoText(len(lines))
    return Text(tuple(rows))


def words_of(line):
    """The words of a line; none of a line that is passed over."""
    words = [word for word in line.split(" ") if word]
    return [] if words[:1] == [PASSED_OVER] else words


def read_row(words):
    """The ROW of which the words tell; None where they tell of none."""
    if len(words) == 0 or words[0] not in ROW_PARTS:
        return None
    forms = [form[0] for form in ROW_PARTS[words[0]]]
    parts = read_parts(words[1:], ["rest" if form in TOKEN_FORMS else form for form in forms])
    if parts is None:
        return None
    row = (words[0],) + parts
    return row if is_row(row) else None


def read_parts(words, forms):
    """The parts of which the words tell: a number of `number` and `place`, which may be -1, the tuple of all that are
    left of `rest`, else a word; None where the words don't tell of just so many or a number is none.
    """
    parts = []
    left = list(words)
    for form in forms:
        if form == "rest":
            parts.append(tuple(left))
            left = []
        elif len(left) == 0:
            return None
        else:
            part = _read_part(left.pop(0), form)
            if part is None:
                return None
            parts.append(part)
    return None if left else tuple(parts)


def _read_part(word, form):
    """The part of this form that is one word; None where it is none."""
    if form == "place" and word == "-1":
        return -1
    if form in ("number", "place"):
        return read_number(word)
    return word


def read_number(word):
    """The number of the word's figures; None where it is none."""
    if not 1 <= len(word) <= MOST_FIGURES or any([sign not in FIGURES for sign in word]):
        return None
    if word[0] == "0" and word != "0":
        return None
    return int(word)
