"""Documents by chance, always the same ones for a number."""

import random

from papertongue.documents import Document
from papertongue.errors import NoRows
from papertongue.texts import Text

LONG = ["a", "be", "see", "word", "Words,", "longer", "sentence", "paragraph.", "abcdefghijkl"]
INDEXED = ["^a", "^A", "^be", "^Words", "^words", "^abcdefghijkl", "^9"]


class Maker:
    """One document by chance."""

    def __init__(self, number, rows=30, long=8, kinds=None):
        self.chance = random.Random(number)
        self.long = long
        self.marks = 0
        self.has_many_places = self.chance.random() < 0.3
        self.once = ["index", "endnotes"]
        self.kinds = kinds or self.chance.choice([
            ["head", "para", "para", "item", "figure", "list"],
            ["head", "para", "item", "figure", "table", "list", "when", "break"],
            ["para", "para", "figure", "figure", "break", "head"],
            ["item", "item", "item", "head", "when", "para"],
            ["head", "head", "table", "para", "figure", "when", "list"],
            ["para", "table", "table", "list", "break", "break"],
            ["figure", "para"],
            ["head", "head", "head", "figure", "break", "para", "item"],
        ])
        self.styles = []
        self.rules = self.make_rules()
        made = []
        while len(made) < rows:
            made += self.make_rows(0)
        self.rows = tuple(self.rules + made)

    def mark(self):
        self.marks += 1
        first, second = divmod(self.marks, 26)
        return "@m" + "abcdefghijklmnopqrstuvwxyz"[first] + "abcdefghijklmnopqrstuvwxyz"[second]

    def make_rules(self):
        chance = self.chance
        rules = []
        for name in ["s", "t", "quote"][:chance.randint(0, 3)]:
            self.styles.append(name)
            align = chance.choice(["left", "right", "middle"])
            rules.append(("style", name, chance.randint(0, 6), chance.randint(0, 4), chance.randint(0, 2), align))
        for kind in ("table", "figure", "foot", "end", "item"):
            if chance.random() < 0.4:
                rules.append(("counter", kind, chance.choice("1aA"), 0 if kind == "item" else chance.randint(0, 3)))
        for depth in (1, 2, 3):
            if chance.random() < 0.3:
                rules.append(("counter", "head", chance.choice("1aA"), depth))
        chance.shuffle(rules)
        return rules

    def plain_token(self, bare):
        roll = self.chance.random()
        if roll < 0.12 and self.marks < 600:
            return self.mark()
        if roll < 0.24:
            return self.chance.choice(INDEXED)
        if roll < 0.32:
            return "#?"
        if roll < (0.7 if self.has_many_places else 0.42) and not bare:
            return self.chance.choice(["~?", "~?", "&?"])
        return self.chance.choice(LONG)

    def tokens(self, bare=False, notes=False, most=None):
        most = self.long if most is None else most
        found = []
        for _ in range(self.chance.randint(0, most)):
            if notes and self.chance.random() < 0.12:
                opening = self.chance.choice("{[")
                inner = [self.plain_token(False) for _ in range(self.chance.randint(0, 6))]
                found += [opening] + inner + ["}" if opening == "{" else "]"]
            else:
                found.append(self.plain_token(bare))
        while len(found) > 40:
            return self.tokens(bare, notes, most)
        return tuple(found)

    def make_rows(self, depth):
        chance = self.chance
        kind = chance.choice(self.kinds)
        if kind == "head":
            return [("head", chance.randint(1, 3), self.tokens(bare=True, most=4))]
        if kind == "para":
            return [("para", chance.choice(self.styles + ["-"]), self.tokens(notes=True))]
        if kind == "item":
            return [("item", chance.randint(1, 3), chance.choice(["dot", "num", "num"]), self.tokens(notes=True))]
        if kind == "figure":
            return [("figure", chance.randint(1, 6), self.tokens(bare=True, most=6))]
        if kind == "table":
            return self.make_table()
        if kind == "when" and depth < 3:
            inner = []
            for _ in range(chance.randint(0, 3)):
                inner += self.make_rows(depth + 1)
            return [("when", chance.choice(["pages", "screen", "plain"]))] + inner + [("done",)]
        if kind == "list":
            word = chance.choice(["contents", "figures", "index", "endnotes"])
            if word in ("index", "endnotes"):
                if word not in self.once:
                    return []
                self.once.remove(word)
            return [(word, chance.randint(1, 3)) if word == "contents" else (word,)]
        return [("break",)] if kind == "break" else []

    def make_table(self):
        chance = self.chance
        while True:
            marks = self.marks
            columns = chance.randint(1, 4)
            rows = [("table", columns, self.tokens(bare=True, most=4))]
            for _ in range(chance.randint(1, 5)):
                rows.append(("row",))
                for _ in range(chance.randint(0, columns)):
                    down, across = chance.choice([1, 1, 1, 2, 3]), chance.choice([1, 1, 1, 2, 4])
                    tokens = self.tokens(most=6)
                    rows.append(("cell", down, across, tokens))
            rows.append(("close",))
            try:
                return list(Text(tuple(rows)).rows)
            except NoRows:
                self.marks = marks

    def named(self):
        """The rows with a mark's name in each reference, those without any mark left out."""
        names = [token[1:] for row in self.rows for part in row if isinstance(part, tuple)
                 for token in part if token[0] == "@"]
        found = []
        for row in self.rows:
            parts = []
            for part in row:
                if isinstance(part, tuple):
                    part = tuple(
                        token[0] + self.chance.choice(names) if token[1:] == "?" else token
                        for token in part if names or token[1:] != "?")
                parts.append(part)
            found.append(tuple(parts))
        return tuple(found)


def random_rows(number, **told):
    """Rows of a document by chance."""
    return Maker(number, **told).named()


def random_document(number, **told):
    """A Document by chance, of one to three texts."""
    rows = random_rows(number, **told)
    rules = [row for row in rows if row[0] in ("style", "counter")]
    rest = rows[len(rules):]
    texts = [("first", Text(tuple(rules) + tuple(("include", name) for name in "abcd"[:len(rest) // 70 + 1])))]
    cuts = cuts_of(rest, len(texts[0][1].rows) - len(rules))
    for name, part in zip("abcd", cuts):
        texts.append((name, Text(part)))
    return Document(tuple(texts))


def cuts_of(rows, many):
    """The rows in so many parts, none of which cuts a `when` or a table."""
    parts, now, depth = [], [], 0
    for row in rows:
        now.append(row)
        depth += {"when": 1, "table": 1, "done": -1, "close": -1}.get(row[0], 0)
        if depth == 0 and len(now) >= -(-len(rows) // many) and len(parts) < many - 1:
            parts.append(tuple(now))
            now = []
    return parts + [tuple(now)] + [()] * (many - len(parts) - 1)
