"""What the tests share: things of any kind, how a refusal is looked at, and how documents are made."""

from papertongue.desk import Desk
from papertongue.documents import document_of
from papertongue.drafts import Draft
from papertongue.errors import NoRows
from papertongue.printing import as_plain
from papertongue.texts import Text


class Plain:
    """A class of nobody's."""


class Sly:
    """A thing that tells of itself what isn't so, and can't be compared."""

    @property
    def __class__(self):
        return tuple

    def __eq__(self, other):
        raise AssertionError("compared")

    def __len__(self):
        raise AssertionError("measured")

    def __iter__(self):
        raise AssertionError("gone through")

    __hash__ = None


def deep_list(depth):
    """A list within a list, and so on."""
    made = []
    for _ in range(depth):
        made = [made]
    return made


def deep_tuple(depth):
    """A tuple within a tuple, and so on."""
    made = ()
    for _ in range(depth):
        made = (made,)
    return made


# None of these is a text, a tuple or a whole number.
OTHER_THINGS = [
    None, True, False, b"", b"a", b"row", bytearray(b"a"), [], ["a"], [("row",)], {}, {"a": 1}, set(), {"a"},
    frozenset(("a",)), range(3), Ellipsis, NotImplemented, object(), Plain, Plain(), len, lambda: ("a",), Sly(),
    Text(), Text((("break",),)), document_of(Text()), as_plain(document_of(Text())), Draft(Text()), Desk(), NoRows(0),
    NoRows, ValueError("a"), deep_list(9), iter(("a",)), str, tuple, slice(1),
]

NUMBERS = [-1, 0, 1, 2, 3, 12, 40, 10 ** 30]


def refused(test, error, field, value, asked, *given, **named):
    """See that what is asked is refused with this error and this value of its field, and tell the error."""
    with test.assertRaises(error) as caught:
        asked(*given, **named)
    test.assertIs(type(caught.exception), error)
    told = getattr(caught.exception, field)
    if told is not value:
        test.assertIs(type(told), type(value))
        test.assertEqual(told, value)
    return caught.exception


def words(text):
    """TOKENS written with blanks between, as a tuple."""
    return tuple(text.split())


def head(depth, text=""):
    """A `head` row."""
    return ("head", depth, words(text))


def para(text="", style="-"):
    """A `para` row."""
    return ("para", style, words(text))


def dot(depth, text=""):
    """An `item` row without a number."""
    return ("item", depth, "dot", words(text))


def num(depth, text=""):
    """An `item` row with a number."""
    return ("item", depth, "num", words(text))


def figure(lines, text=""):
    """A `figure` row."""
    return ("figure", lines, words(text))


def cell(text="", down=1, across=1):
    """A `cell` row."""
    return ("cell", down, across, words(text))


def table(columns, caption, *rows):
    """The rows of a table; each of its rows is a list of cells, a text for a plain one."""
    made = [("table", columns, words(caption))]
    for row in rows:
        made.append(("row",))
        made += [cell(one) if isinstance(one, str) else one for one in row]
    return made + [("close",)]


def document(*rows):
    """The Document of these rows alone."""
    return document_of(Text(rows))
