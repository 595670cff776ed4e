"""Included texts: how the TEXTS of a document stand in each other."""


def missing_name(texts):
    """The NAME of the first `include` of a text that there isn't; None without one."""
    inner = _inner_names(texts)
    for name, _ in texts:
        for wanted in inner[name]:
            if wanted not in inner:
                return wanted
    return None


def ring_name(texts):
    """The first NAME that stands in itself, at once or through others; None without one."""
    inner = _inner_names(texts)
    for name, _ in texts:
        if name in _reached_names(inner, name):
            return name
    return None


def count_rows(texts):
    """How many ROWS there are where each `include` gives way to the rows of its text."""
    return _count_text(texts[0][0], dict(texts), {})


def rows_of(texts):
    """The ROWS: those of the first text, each `include` giving way to the rows of its text."""
    return _text_rows(texts[0][0], dict(texts), {})


def _inner_names(texts):
    """For each NAME the NAMEs that its text includes, in their turn."""
    return {name: [row[1] for row in text.rows if row[0] == "include"] for name, text in texts}


def _reached_names(inner, name):
    """The NAMEs of all that stands in the text of this NAME, at once or through others."""
    found = {}
    ahead = list(inner[name])
    while ahead:
        reached = ahead.pop()
        if reached not in found:
            found[reached] = True
            ahead.extend(inner[reached])
    return found


# A text may stand in others so often that going through it each time would have no end, even
# where it has no rows: what is known of a text is kept by its NAME.
def _count_text(name, texts, known):
    """How many ROWS the text of this NAME has."""
    if name not in known:
        rows = texts[name].rows
        inner = [_count_text(row[1], texts, known) for row in rows if row[0] == "include"]
        known[name] = len(rows) - len(inner) + sum(inner)
    return known[name]


def _text_rows(name, texts, known):
    """The ROWS of the text of this NAME."""
    if name not in known:
        rows = []
        for row in texts[name].rows:
            if row[0] == "include":
                rows.extend(_text_rows(row[1], texts, known))
            else:
                rows.append(row)
        known[name] = tuple(rows)
    return known[name]
