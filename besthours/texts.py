"""Texts of books, plans and proofs, written and read."""

from besthours.book import need_book, need_plan
from besthours.checks import is_triple
from besthours.errors import BadPlan, BadProof
from besthours.forms import form_text, has_form, read_text

MOST_IN_SPOT = 1000


def book_text(book):
    """The text of a book."""
    return form_text("BOOK", need_book(book))


def read_book(text):
    """The book that a text tells."""
    return need_book(read_text("BOOK", text))


def plan_text(plan):
    """The text of a plan of whatever book."""
    if not isinstance(plan, tuple):
        raise BadPlan(())
    for index, spot in enumerate(plan):
        if not is_triple(spot, MOST_IN_SPOT, MOST_IN_SPOT, MOST_IN_SPOT):
            raise BadPlan((index,))
    return form_text("PLAN", plan)


def read_plan(book, text):
    """The plan of a book that a text tells."""
    need_book(book)
    return need_plan(book, read_text("PLAN", text))


def proof_text(steps):
    """The text of a proof, be it right or wrong."""
    if not isinstance(steps, tuple):
        raise BadProof(())
    for index, step in enumerate(steps):
        if not has_form("STEP", step):
            raise BadProof((index,))
    return form_text("PROOF", steps)


def read_proof(text):
    """The steps that a text tells."""
    # whatever has been read has the form that proof_text asks for
    return read_text("PROOF", text)
