"""Things that are but a little otherwise than a thing of tuples, texts, numbers and None."""


def otherwise(thing):
    """Each a thing with one thing otherwise in it."""
    if isinstance(thing, tuple):
        yield list(thing)
        yield thing + (None,)
        yield thing + thing[-1:] if thing else (thing,)
        yield None
        for at in range(len(thing)):
            yield thing[:at] + thing[at + 1:]
            for part in otherwise(thing[at]):
                yield thing[:at] + (part,) + thing[at + 1:]
    elif isinstance(thing, int):
        yield from [thing + 1, thing - 1, -thing - 1, str(thing), None, (thing,), 10 ** 30]
        if thing in (0, 1):
            yield bool(thing)
    elif isinstance(thing, str):
        yield from [thing + "a", thing + " ", " " + thing, thing.encode(), None, 0, (thing,), list(thing), thing + "\n"]
        if thing:
            yield thing[:-1]
    else:
        yield from [0, False, True, "", (), [], "-"]
