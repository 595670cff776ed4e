"""What a thing of any kind is: a text, a tuple, a whole number."""

# A thing is asked for its very class: one of a class under str, tuple or int may answer
# otherwise each time it is asked, and what is made of it here must never change.


def is_text(thing):
    """Whether the thing is a text."""
    return type(thing) == str


def is_tuple(thing):
    """Whether the thing is a tuple."""
    return type(thing) == tuple


def is_whole(thing, least, most):
    """Whether the thing is a whole number from least to most."""
    return type(thing) == int and least <= thing <= most


def is_same(thing, told):
    """Whether the thing is just what is told: a text, a whole number, None, or a tuple of such."""
    if is_tuple(told):
        if not is_tuple(thing) or len(thing) != len(told):
            return False
        return all([is_same(part, told_part) for part, told_part in zip(thing, told)])
    if told is None:
        return thing is None
    if is_text(told):
        return is_text(thing) and thing == told
    return is_whole(thing, told, told)
