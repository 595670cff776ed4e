"""WORDs, NAMEs and TOKENS: what they are, how they are written and read."""

from papertongue.errors import NoTokens
from papertongue.things import is_text, is_tuple

SMALL_LETTERS = "abcdefghijklmnopqrstuvwxyz"
WORD_SIGNS = "abcdefghijklmnopqrstuvwxyzABCDEFGHIJKLMNOPQRSTUVWXYZ0123456789.,"
MOST_LETTERS = 8
MOST_SIGNS = 12
MOST_TOKENS = 40
PAIRS = {"{": "}", "[": "]"}
BRACKETS = ("{", "}", "[", "]")
AHEAD_OF_NAMES = ("@", "#", "~", "&")
AHEAD_OF_WORDS = "^"


def is_name(thing):
    """Whether the thing is a NAME."""
    return _is_of(thing, SMALL_LETTERS, MOST_LETTERS)


def is_word(thing):
    """Whether the thing is a WORD."""
    return _is_of(thing, WORD_SIGNS, MOST_SIGNS)


def _is_of(thing, signs, most):
    """Whether the thing is a text of one to so many of these signs."""
    return is_text(thing) and 1 <= len(thing) <= most and all([sign in signs for sign in thing])


def is_token(thing):
    """Whether the thing is a TOKEN."""
    if not is_text(thing) or thing == "":
        return False
    if thing in BRACKETS:
        return True
    if thing[0] in AHEAD_OF_NAMES:
        return is_name(thing[1:])
    if thing[0] == AHEAD_OF_WORDS:
        return is_word(thing[1:])
    return is_word(thing)


def is_tokens(thing, *, plain=False):
    """Whether the thing is TOKENS, or PLAIN ones."""
    if not is_tuple(thing) or _wrong_place(thing) is not None:
        return False
    return not plain or not any([token in BRACKETS for token in thing])


def is_bare(thing):
    """Whether the thing is BARE tokens."""
    return is_tokens(thing, plain=True) and not any([token[0] in ("~", "&") for token in thing])


def show_tokens(tokens):
    """The TOKENS with a blank between."""
    if not is_tuple(tokens):
        raise NoTokens(None)
    _refuse_wrong(tokens)
    return " ".join(tokens)


def read_tokens(text):
    """The TOKENS that the words of the text are."""
    if not is_text(text):
        raise NoTokens(None)
    tokens = tuple([word for word in text.split(" ") if word])
    _refuse_wrong(tokens)
    return tokens


def _refuse_wrong(tokens):
    """Refuse a tuple that isn't TOKENS."""
    place = _wrong_place(tokens)
    if place is not None:
        raise NoTokens(place)


def _wrong_place(tokens):
    """The place that parts a tuple from TOKENS: None where it is TOKENS."""
    closing = ""
    for place, token in enumerate(tokens):
        if not is_token(token):
            return place
        if token == closing:
            closing = ""
        elif token in BRACKETS:
            if closing or token not in PAIRS:
                return place
            closing = PAIRS[token]
    if closing or len(tokens) > MOST_TOKENS:
        return len(tokens)
    return None
