"""On which books a machine stands."""

from carryladder.papers import paper
from carryladder.programs import BOOKS


def stands(machine, book):
    """Tell whether machine stands on book; TooMany(limit) as paper."""
    # What a book asks for is that there is nothing of the kind that its papers show.
    return paper(machine, book) is None


def books_of(machine):
    """Return the tuple of the books on which machine stands; TooMany(limit) as paper, book by book."""
    return tuple([book for book, _ in BOOKS if stands(machine, book)])
