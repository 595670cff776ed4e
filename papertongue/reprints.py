"""Printings anew: those of a document that follows an elder one."""

from papertongue.errors import NoPrinting
from papertongue.printing import Printing, printed


def reprinted(printing, document):
    """The Document's Printing of the elder one's size, and the numbers of its pages that aren't as in that one."""
    if type(printing) != Printing:
        raise NoPrinting(printing)
    newer = printed(document, printing.size)
    elder = printing.pages
    numbers = [number for number, lines in enumerate(newer.pages, start=1) if elder[number - 1:number] != (lines,)]
    return (newer, tuple(numbers))
