"""A second way to print, sign by sign and without any haste, to hold the program's own against.

A sign is (SIGN, SOURCE, TAG): TAG names the word whose place somebody asks for, with the number of the sign in it.
"""

LETTERS = "abcdefghijklmnopqrstuvwxyz"
NOTES = {"{": ("foot", "(", ")"), "[": ("end", "[", "]")}
ENDLESS = 10 ** 6


class TooTallThere(Exception):
    """A lump has no room on a page."""


def tokens_at(row):
    return row[-1] if row[0] in ("head", "para", "item", "figure", "table", "cell") else ()


def inside_of(tokens):
    """For each token the number of the bracket of its note, None outside of notes."""
    found, note = [], None
    for at, token in enumerate(tokens):
        if token in ("}", "]"):
            note = None
        found.append(note)
        if token in NOTES:
            note = at
    return found


def written(count, form):
    if form == "1" or count == 0:
        return str(count)
    letters = [""]
    while len(letters) <= count:
        if len(letters) <= 26:
            letters.append(LETTERS[len(letters) - 1])
        else:
            letters.append(letters[(len(letters) - 1) // 26] + LETTERS[(len(letters) - 1) % 26])
    return letters[count] if form == "a" else letters[count].upper()


class Numbers:
    """All numbers of rows, each found by going back from it."""

    def __init__(self, rows):
        self.rows = rows
        self.forms = {}
        for row in rows:
            if row[0] == "counter":
                self.forms[(row[1], row[3]) if row[1] == "head" else row[1]] = row[2:]
        self.all = {}
        for at, row in enumerate(rows):
            if row[0] in ("head", "table", "figure") or row[0] == "item" and row[2] == "num":
                self.all[(at, None)] = self.number(at, None, row[0])
            for number, token in enumerate(tokens_at(row)):
                if token in NOTES:
                    self.all[(at, number)] = self.number(at, number, NOTES[token][0])

    def number(self, at, token, kind):
        if kind == "item":
            return kind, written(len(self.made(at, token, kind)), self.forms.get("item", "1")[0])
        if kind == "head":
            return kind, ".".join(self.heads(at + 1)[:self.rows[at][1]])
        form, within = self.forms.get(kind, ("1", 0))
        count = written(len(self.made(at, token, kind)), form)
        return kind, ".".join(self.heads(at)[:within] + [count])

    def heads(self, below):
        """The counts of heads of all depths among so many rows."""
        counts = [0, 0, 0]
        for row in self.rows[:below]:
            if row[0] == "head":
                counts[row[1] - 1] += 1
                counts[row[1]:] = [0] * (3 - row[1])
        return [written(count, self.forms.get(("head", depth), "1")[0]) for depth, count in enumerate(counts, 1)]

    def made(self, at, token, kind):
        """What made the count, found from its number back to where it was 0."""
        found = []
        for back in range(at, -1, -1):
            row = self.rows[back]
            if kind == "item":
                if row[0] != "item" or row[1] < self.rows[at][1]:
                    break
                if row[1] == self.rows[at][1] and row[2] == "num":
                    found.insert(0, (back, None))
            elif kind == "head":
                if row[0] == "head" and row[1] < self.rows[at][1]:
                    break
                if row[0] == "head" and row[1] == self.rows[at][1]:
                    found.insert(0, (back, None))
            else:
                if row[0] == "head" and row[1] <= self.forms.get(kind, ("1", 0))[1]:
                    break
                if row[0] == kind:
                    found.insert(0, (back, None))
                for number in range(len(tokens_at(row)) - 1, -1, -1):
                    sign = tokens_at(row)[number]
                    if sign in NOTES and NOTES[sign][0] == kind and (back < at or number <= token):
                        found.insert(0, (back, number))
        return tuple(found)


class Model:
    """One printing: its pages of signs, rounds, ends, and where marks stand."""

    def __init__(self, rows, size):
        self.rows, self.size, self.kind = rows, size, size[0]
        self.width = ENDLESS if self.kind == "plain" else size[1]
        self.numbers = Numbers(rows).all
        self.find_shown()
        self.find_marks()
        self.styles = {row[1]: row[2:] for row in rows if row[0] == "style"}
        self.styles["-"] = (0, 0, 1, "left")
        self.print_rounds()

    # What is shown, and what marks stand in.

    def find_shown(self):
        self.shown, whens = [], []
        for at, row in enumerate(self.rows):
            if row[0] == "when":
                whens.append(row[1])
            elif row[0] == "done":
                whens.pop()
            elif row[0] not in ("style", "counter") and set(whens) <= {self.kind}:
                self.shown.append(at)
        self.foot, self.end, self.tildes, self.words = [], [], [], {}
        for at in self.shown:
            for number, token in enumerate(tokens_at(self.rows[at])):
                if token == "{":
                    self.foot.append((at, number))
                if token == "[":
                    self.end.append((at, number))
                if token[0] == "~":
                    self.tildes.append((at, number))
                if token[0] == "^":
                    self.words.setdefault(token[1:], []).append((at, number))
        has_index = "index" in [self.rows[at][0] for at in self.shown]
        self.entries = sorted(self.words, key=lambda word: (word.lower(), word)) if has_index else []

    def find_marks(self):
        self.mark_numbers, self.mark_tags = {}, {}
        last, table = "-", None
        for at, row in enumerate(self.rows):
            own = self.numbers.get((at, None), (None, None))[1]
            table = own if row[0] == "table" else table
            own = table if row[0] == "cell" else own
            notes = inside_of(tokens_at(row))
            for number, token in enumerate(tokens_at(row)):
                if token[0] == "@":
                    note = notes[number]
                    told = own or last if note is None else self.numbers[(at, note)][1]
                    self.mark_numbers[token[1:]] = told
                    self.mark_tags[token[1:]] = self.mark_tag(at, row, number, note, notes)
            last = own if row[0] == "head" else last

    def mark_tag(self, at, row, number, note, notes):
        """The tag of the word where a mark stands."""
        if at not in self.shown:
            return None
        beside = [n for n, token in enumerate(row[-1]) if notes[n] == note and token[0] not in "@}]"]
        for one in beside:
            if one > number:
                return ("text", at, one)
        if beside:
            return ("text", at, beside[-1])
        if note is not None:
            return ("label", at, note)
        return ("label", at, None) if row[0] not in ("para", "cell") else None

    # Words, each a list of signs.

    def made(self, signs, sort, row, tag=None):
        return [(sign, ("made", sort, row), tag and (tag, at)) for at, sign in enumerate(signs)]

    def fill(self, many, row, sign=" "):
        return [(sign, ("made", "fill", row), None)] * many

    def token_word(self, at, number):
        token = self.rows[at][-1][number]
        if token[0] == "#":
            signs = self.mark_numbers[token[1:]]
        elif token[0] in "~&":
            signs = self.said[(at, number)]
        elif token in NOTES:
            signs = NOTES[token][1] + self.numbers[(at, number)][1] + NOTES[token][2]
        else:
            signs = token.lstrip("^")
        return [(sign, ("text", at, number, n), (("text", at, number), n)) for n, sign in enumerate(signs)]

    def row_tokens(self, at, note=None):
        """The words of the TOKENS of a ROW, or of a note in it."""
        tokens = self.rows[at][-1]
        notes = inside_of(tokens)
        return [
            self.token_word(at, n) for n, token in enumerate(tokens) if notes[n] == note and token[0] not in "@}]"]

    def row_words(self, at):
        """The words of a ROW with those ahead."""
        row = self.rows[at]
        number = self.numbers.get((at, None), (None, "-"))[1]
        ahead = []
        if row[0] == "head":
            ahead = [self.made(number, "number", at, ("label", at, None))]
        if row[0] == "item":
            dot = "." if row[2] == "num" else ""
            ahead = [self.made(number + dot, "number", at, ("label", at, None))]
        if row[0] in ("table", "figure"):
            ahead = [self.made(row[0].title(), "number", at, ("name", at)), self.made(
                number + ".", "number", at, ("label", at, None))]
        return ahead + self.row_tokens(at)

    def note_words(self, place):
        at, number = place
        _, opening, closing = NOTES[self.rows[at][-1][number]]
        label = self.made(opening + self.numbers[place][1] + closing, "number", at, ("label", at, number))
        return [label] + self.row_tokens(at, number)

    # Lines, each a list of signs.

    def lay(self, row, words, lead, room, more_lead=None, more_room=None):
        """Lines of words; the first has a lead and room of its own where more are told."""
        more_lead = lead if more_lead is None else more_lead
        more_room = room if more_room is None else more_room
        lines, line = [], []
        words = [list(word) for word in words]
        while words:
            have = room if not lines else more_room
            word = words[0]
            if not line and len(word) > have:
                line, words[0] = word[:have], word[have:]
                if len(line) == have:
                    lines.append(line)
                    line = []
            elif not line:
                line = words.pop(0)
            elif len(line) + 1 + len(word) <= have:
                line = line + self.fill(1, row) + words.pop(0)
            else:
                lines.append(line)
                line = []
        if line:
            lines.append(line)
        return [self.fill(more_lead if at else lead, row) + line for at, line in enumerate(lines)]

    def para(self, at):
        indent, first, _, align = self.styles[self.rows[at][1]]
        width = self.width
        lines = self.lay(at, self.row_words(at), indent + first, width - indent - first, indent, width - indent)
        left = {"left": lambda line: 0, "right": lambda line: width - len(line),
                "middle": lambda line: (width - len(line)) // 2}[align]
        return [self.fill(left(line), at) + line for line in lines]

    def item(self, at):
        label, *words = self.row_words(at)
        before = self.fill(2 * self.rows[at][1] - 2, at)
        lead = len(before) + 5
        lines = self.lay(at, words, lead, self.width - lead) or [[]]
        lines[0] = before + label + lines[0][len(before) + len(label):]
        return lines

    def table_rows(self, at):
        """Of each row of a table its ROW and cells (ROW, COLUMN, DOWN, ACROSS)."""
        found, taken = [], set()
        for number in range(at + 1, len(self.rows)):
            row = self.rows[number]
            if row[0] == "close":
                return found
            if row[0] == "row":
                found.append((number, []))
            else:
                down, across = row[1:3]
                line = len(found) - 1
                column = min(c for c in range(4) if (line, c) not in taken)
                taken |= {(line + d, column + a) for d in range(down) for a in range(across)}
                found[-1][1].append((number, column, down, across))
        return found

    def table(self, at):
        """The caption's lines, and groups of rows (ROW, lines)."""
        columns = self.rows[at][1]
        wide = (self.width - columns + 1) // columns
        table = self.table_rows(at)
        cells, heights = [], []
        for first, (_, row_cells) in enumerate(table):
            for number, column, down, across in row_cells:
                room = wide * across + across - 1
                cells.append((first, first + down - 1, column * (wide + 1), room, number))
        needs = {cell: len(self.lay(0, self.row_tokens(cell[4]), 0, cell[3])) for cell in cells}
        for line in range(len(table)):
            high = 1
            for cell in cells:
                if cell[1] == line:
                    high = max(high, needs[cell] - sum(heights[cell[0]:line]))
            heights.append(high)
        lines = []
        for line, (row, _) in enumerate(table):
            for part in range(heights[line]):
                signs = []
                for first, last, column, room, number in sorted(cells, key=lambda cell: cell[2]):
                    if first <= line <= last:
                        inner = self.lay(row, self.row_tokens(number), 0, room)
                        at_line = sum(heights[first:line]) + part
                        if at_line < len(inner):
                            signs += self.fill(column - len(signs), row) + inner[at_line]
                lines.append((line, row, signs))
        groups = []
        for line, (row, _) in enumerate(table):
            own = [signs for n, _, signs in lines if n == line]
            if groups and any(first < line <= last for first, last, _, _, _ in cells):
                groups[-1][1].extend(own)
            else:
                groups.append((row, own))
        return self.lay(at, self.row_words(at), 0, self.width), groups

    def listed(self, words, at):
        return [[(sign, ("made", "list", at), None) for sign, _, _ in word] for word in words]

    def list_entries(self, at):
        """The entries of contents and figures: (DEPTH, words, tag)."""
        row = self.rows[at]
        for other in self.shown:
            told = self.rows[other]
            if row[0] == "contents" and told[0] == "head" and told[1] <= row[1]:
                yield told[1], self.listed(self.row_words(other), at), ("label", other, None)
            if row[0] == "figures" and told[0] == "figure":
                yield 1, self.listed(self.row_words(other)[1:], at), ("name", other)

    def entries_of(self, at):
        """(ROW, lines) of each entry of a list."""
        word = self.rows[at][0] if at is not None else "endnotes"
        if word == "endnotes":
            return [(place[0], self.lay(place[0], self.note_words(place), 0, self.width)) for place in self.end]
        if word == "index":
            return [(at, self.index_lines(at, entry)) for entry in self.entries]
        found = []
        for depth, words, tag in self.list_entries(at):
            lead = 2 * depth - 2
            place = self.listed([[(sign, None, None) for sign in self.said.get(tag, "?")]], at)[0]
            lines = self.lay(at, words, lead, self.width - lead - 8)
            last = lines[-1]
            dots = self.made("." * (self.width - 5 - len(last)), "list", at)
            lines[-1] = last + dots + self.fill(5 - len(place), at) + place
            found.append((at, lines))
        return found

    def index_lines(self, at, entry):
        """The lines of an entry, as many as its size."""
        places = self.said.get(entry, [])
        words = [entry] + [f"{place}," for place in places[:-1]] + [str(place) for place in places[-1:]]
        words = [self.made(word, "list", at) for word in words]
        lines = self.lay(at, words, 0, self.width, 2, self.width - 2)[:self.sizes[entry]]
        return lines + [[]] * (self.sizes[entry] - len(lines))

    # Units: (sort, ROW, before, lines), in the turn of ROWS.

    def units(self):
        found = []
        for at in self.shown:
            row = self.rows[at]
            if row[0] == "head":
                found.append(("head", at, 1, self.lay(at, self.row_words(at), 0, self.width)))
            if row[0] == "para":
                found += self.parted(at, self.styles[row[1]][2], self.para(at))
            if row[0] == "item":
                found += self.parted(at, 0, self.item(at))
            if row[0] == "figure":
                picture = [self.made(":" * self.width, "picture", at) for _ in range(row[1])]
                found.append(("figure", at, 1, picture + self.lay(at, self.row_words(at), 0, self.width)))
            if row[0] == "table":
                caption, groups = self.table(at)
                found.append(("lines", at, 1, caption + groups[0][1]))
                found += [("lines", number, 0, lines) for number, lines in groups[1:]]
            if row[0] == "break":
                found.append(("break", at, 0, []))
            if row[0] in ("contents", "figures", "index", "endnotes"):
                found += self.entry_units(self.entries_of(at))
        if "endnotes" not in [self.rows[at][0] for at in self.shown]:
            found += self.entry_units(self.entries_of(None))
        return found

    def parted(self, row, before, lines):
        many = len(lines)
        if many > 3:
            cuts = [0, 2] + list(range(3, many - 1)) + [many]
        else:
            cuts = [0, many] if many else [0]
        parts = [lines[one:other] for one, other in zip(cuts, cuts[1:])]
        return [("lines", row, 0 if at else before, part) for at, part in enumerate(parts)]

    def entry_units(self, entries):
        found = []
        for at, (row, lines) in enumerate(entries):
            found += self.parted(row, 0 if at else 1, lines)
        return found

    # Pages, screens, plain texts.

    def called(self, lines):
        """The foot notes whose calls have their first sign in these lines."""
        found = []
        for line in lines:
            for _, what, tag in line:
                if what[0] == "text" and what[3] == 0 and what[1:3] in self.foot:
                    found.append(what[1:3])
        return found

    def note_lines(self, places):
        lines = []
        for place in places:
            lines += self.lay(place[0], self.note_words(place), 0, self.width)
        return [self.made("-----", "rule", None)] + lines if lines else []

    def body(self, units):
        lines = []
        for _, _, before, own in units:
            lines += ([[]] * before if lines else []) + own
        return lines

    def page(self, units):
        """The lines of a page of these units, but for its top."""
        body = self.body(units)
        return body + self.note_lines(self.called(body))

    def joined(self, units):
        units = list(units)
        at = 0
        while at + 1 < len(units):
            one, other = units[at], units[at + 1]
            if one[0] == "head" and other[0] in ("head", "lines"):
                lines = one[3] + [[]] * other[2] + other[3]
                units[at:at + 2] = [(other[0], one[1], one[2], lines)]
            else:
                at += 1
        return units

    def top(self, number, pages):
        """The top of the page of this number."""
        heads = [
            at for page in pages[:number] for unit in page for at in self.shown
            if self.rows[at][:2] == ("head", 1) and any(
                tag == (("label", at, None), 0) for line in unit[3] for _, _, tag in line)]
        text = ""
        if heads:
            words = self.row_words(heads[-1])
            text = " ".join("".join(sign for sign, _, _ in word) for word in words)[:self.width - 6]
        text = text + " " * (self.width - len(text) - len(str(number))) + str(number)
        head = heads[-1] if heads else None
        return [(sign, ("made", "fill", None) if sign == " " else ("made", "top", head), None) for sign in text]

    def make_pages(self):
        high = self.size[2] - 1
        units = self.joined(self.units())
        for unit in units:
            if len(self.page([unit])) > high:
                raise TooTallThere(unit[1])
        self.full, self.ends, waiting, now = [], [], [], []

        def turn(why):
            nonlocal now
            self.full.append(now)
            self.ends.append(why)
            now = []
            while waiting and len(self.page(now + waiting[:1])) <= high:
                now.append(waiting.pop(0))

        breaks = []
        for unit in units:
            if unit[0] == "break":
                breaks.append(unit[1])
                continue
            if breaks and now:
                turn(("break", breaks[0]))
            breaks = []
            if unit[0] == "figure":
                if waiting or len(self.page(now + [unit])) > high:
                    waiting.append(unit)
                else:
                    now.append(unit)
                continue
            while len(self.page(now + [unit])) > high:
                have = len(self.page(now))
                turn(("full", unit[1], len(self.page(now + [unit])) - have, high - have))
            now.append(unit)
        while waiting:
            turn(("break", breaks[0]) if breaks else ("figures", waiting[0][1]))
            breaks = []
        if now:
            turn(("end",))
        return [[self.top(at, self.full)] + self.page(units) for at, units in enumerate(self.full, 1)]

    def make_screen(self):
        lines = self.body(self.units())
        return lines + self.note_lines(self.foot)

    def make_plain(self):
        lines, ended = [], False
        for at in self.shown:
            row = self.rows[at]
            if row[0] in ("contents", "figures"):
                for _, words, tag in self.list_entries(at):
                    place = self.made(self.said.get(tag, "?"), "list", at)
                    lines += self.lay(at, words + [place], 0, ENDLESS)
            elif row[0] in ("index", "endnotes"):
                ended = ended or row[0] == "endnotes"
                lines += [line for _, one in self.entries_of(at) for line in one]
            elif row[0] == "table":
                lines += self.lay(at, self.row_words(at), 0, ENDLESS)
                for number, cells in self.table_rows(at):
                    line = []
                    for place, told in enumerate(cells):
                        if place:
                            line = line + self.fill(1, number) + self.fill(1, number, "|") + self.fill(1, number)
                        for inner in self.lay(number, self.row_tokens(told[0]), 0, ENDLESS):
                            line = line + inner
                    lines += [line] if cells else []
            elif row[0] in ("head", "para", "item", "figure"):
                lines += self.lay(at, self.row_words(at), 0, ENDLESS)
                for place in [place for place in self.foot if place[0] == at]:
                    lines += self.note_lines([place])[1:]
        if not ended:
            lines += [line for _, one in self.entries_of(None) for line in one]
        return [line for line in map(self.bare, lines) if line]

    def bare(self, line):
        line = list(line)
        while line and line[-1][0] == " ":
            line.pop()
        return line

    def make(self):
        """The pages of signs by what is said."""
        if self.kind == "pages":
            pages = self.make_pages()
        else:
            lines = self.make_screen() if self.kind == "screen" else self.make_plain()
            pages = [lines] if lines else []
            self.ends = [("end",)] * len(pages)
        self.signs = [[self.bare(line) for line in page] for page in pages]
        self.places = {}
        for page, lines in enumerate(self.signs, 1):
            for number, line in enumerate(lines, 1):
                for column, (_, _, tag) in enumerate(line):
                    if tag and tag[1] == 0:
                        self.places[tag[0]] = (page, number, column)

    # Rounds.

    def place(self, tag):
        return None if tag is None else self.places[tag][0 if self.kind == "pages" else 1]

    def print_rounds(self):
        self.sizes = {key: 1 for key in self.tildes + self.entries}
        self.rounds = []
        while True:
            self.rounds.append(tuple(self.sizes[key] for key in self.tildes + self.entries))
            self.said = {}
            for at in self.shown:
                for number, token in enumerate(tokens_at(self.rows[at])):
                    if token[0] == "~":
                        self.said[(at, number)] = "?" * self.sizes[(at, number)]
                    if token[0] == "&":
                        self.said[(at, number)] = "-" if self.mark_tags[token[1:]] is None else "?????"
            self.make()
            told = self.tell()
            wants = {key: len(told[key].lstrip(".")) for key in self.tildes}
            for entry in self.entries:
                words = [[(".", None, None)] * len(word) for word in self.entry_words(entry, told)]
                wants[entry] = len(self.lay(0, words, 0, self.width, 2, self.width - 2))
            if all(wants[key] <= self.sizes[key] for key in self.sizes):
                break
            self.sizes = {key: max(self.sizes[key], wants[key]) for key in self.sizes}
        self.said = told
        self.make()
        self.stands = {name: self.place(tag) for name, tag in self.mark_tags.items()}

    def entry_words(self, entry, told):
        *places, last = told[entry]
        return [entry] + [f"{place}," for place in places] + [str(last)]

    def tell(self):
        """What hangs on places, as they are now."""
        told = {}
        for at in self.shown:
            for number, token in enumerate(tokens_at(self.rows[at])):
                tag = self.mark_tags.get(token[1:])
                if token[0] == "~":
                    told[(at, number)] = str(self.place(tag) or "-").rjust(self.sizes[(at, number)], ".")
                if token[0] == "&" and tag is None:
                    told[(at, number)] = "-"
                elif token[0] == "&":
                    ahead = self.places[tag] < self.places[("text", at, number)]
                    told[(at, number)] = "above" if ahead else "below"
        for tag in self.places:
            if tag[0] in ("label", "name"):
                told[tag] = str(self.place(tag))
        for entry in self.entries:
            told[entry] = sorted({self.place(("text",) + spot) for spot in self.words[entry]})
        return told

    # What the program tells of a Printing.

    def pages_told(self):
        return tuple(tuple("".join(sign for sign, _, _ in line) for line in page) for page in self.signs)

    def pieces(self):
        """For each (ROW, TOKEN) its PIECEs."""
        found = {}
        for page, lines in enumerate(self.signs, 1):
            for number, line in enumerate(lines, 1):
                own = {}
                for column, (_, what, _) in enumerate(line):
                    if what[0] == "text":
                        own.setdefault(what[1:3], []).append(column)
                for place, columns in own.items():
                    found.setdefault(place, []).append((page, number, columns[0], columns[-1] + 1))
        return {place: tuple(pieces) for place, pieces in found.items()}
