"""What a thing of any kind is: a text, a tuple, a whole number."""

# A thing is asked for its very class: one of a class under str, tuple or int may answer
# otherwise each time it is asked, and what is made of it here must never change.


def is_text(thing):
    """Whether the thing is a text."""
    return type(thing) == str


def is_tuple(thing):
    """Whether the thing is a tuple."""
    return type(thing) == tuple


def is_whole(thing, least, most):
    """Whether the thing is a whole number from least to most."""
    return type(thing) == int and least <= thing <= most
