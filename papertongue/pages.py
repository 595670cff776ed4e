"""Pages: lumps laid where they have room, and why each page ends."""

from papertongue.errors import TooTall
from papertongue.lumps import joined
from papertongue.words import empty_lines, made_word, whole_line

TOP_ROOM = 6


class Book:
    """Pages as they are filled, each of one top, lines of ROWS, and the notes called on it."""

    def __init__(self, measure, height):
        self.measure = measure
        self.height = height
        self.pages = []
        self.ends = []
        self.body = []
        self.foot_lines = []
        self.waiting = []
        # The ROW of the first `break` that ends this page where something comes behind it.
        self.breaking = None
        # The ROW of the last head of DEPTH 1 so far.
        self.top = None

    def take(self, lump):
        """Lay the next lump, figure or `break`."""
        if lump.kind == "break":
            if self.body and self.breaking is None:
                self.breaking = lump.row
            return
        if self.breaking is not None:
            self._end_page(("break", self.breaking))
        if lump.kind == "figure":
            self._take_figure(lump)
            return
        while self._wanted(lump) > self._left():
            self._end_page(("full", lump.row, self._wanted(lump), self._left()))
        self._set_down(lump)

    def finish(self):
        """End the last page, and those of the figures that wait."""
        while self.waiting:
            if self.breaking is not None:
                self._end_page(("break", self.breaking))
            else:
                self._end_page(("figures", self.waiting[0].row))
        if self.body:
            self._end_page(("end",))

    def _take_figure(self, lump):
        if self.waiting or self._wanted(lump) > self._left():
            self.waiting.append(lump)
        else:
            self._set_down(lump)

    def _wanted(self, lump):
        """How many lines the lump wants on this page."""
        many = len(lump.lines) + len(lump.foot_lines)
        if self.body:
            many += lump.before
        if lump.foot_lines and not self.foot_lines:
            many += 1
        return many

    def _left(self):
        """How many lines are left on this page."""
        used = 1 + len(self.body) + len(self.foot_lines)
        if self.foot_lines:
            used += 1
        return self.height - used

    def _set_down(self, lump):
        """Lay a lump that has room."""
        if self.body:
            self.body.extend(empty_lines(lump.before))
        self.body.extend(lump.lines)
        self.foot_lines.extend(lump.foot_lines)
        if lump.top is not None:
            self.top = lump.top

    def _end_page(self, why):
        """End this page and begin the next one with those figures that wait and have room."""
        lines = [_top_line(self.measure, self.top, len(self.pages) + 1)] + self.body
        if self.foot_lines:
            lines = lines + [rule_line()] + self.foot_lines
        self.pages.append(lines)
        self.ends.append(why)
        self.body = []
        self.foot_lines = []
        self.breaking = None
        while self.waiting and self._wanted(self.waiting[0]) <= self._left():
            self._set_down(self.waiting.pop(0))


def pages_of(measure, lumps, height):
    """(PAGES, ENDS): the lines of each page, and why it ends."""
    lumps = joined(lumps)
    for lump in lumps:
        if _least_high(lump) > height:
            raise TooTall(lump.row)
    book = Book(measure, height)
    for lump in lumps:
        book.take(lump)
    book.finish()
    return book.pages, book.ends


def _least_high(lump):
    """How many lines a page has where this lump stands on it alone."""
    many = 1 + len(lump.lines) + len(lump.foot_lines)
    return many + 1 if lump.foot_lines else many


def rule_line():
    """The line ahead of foot notes."""
    return whole_line(None, made_word("-----", "rule", None))


def _top_line(measure, head, page):
    """The top of a page: of this head, None without one."""
    number = str(page)
    signs = ""
    if head is not None:
        words = [word.signs for word in measure.showing.row_words[head]]
        signs = " ".join(words)[:measure.width - TOP_ROOM]
    signs = signs.ljust(measure.width - len(number)) + number
    return whole_line(None, made_word(signs, "top", head))
