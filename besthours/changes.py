"""Old plans of books that have changed: which tasks must move."""

from besthours.best import best
from besthours.book import need_book
from besthours.checks import is_standing, is_within
from besthours.choices import need_question
from besthours.errors import BadParameter, BadPlan
from besthours.meaning import moves_of

MOST_TASKS = 40


def question_beside(book, old):
    """The question of a book beside an old plan, which isn't None."""
    need_book(book)
    if old is None:
        raise BadParameter(old)
    return need_question((book, old, ()))


def changed(book, old):
    """("plan", PLAN, TASKS, PRICE, PAPER) of the plan with the fewest moves, or ("none", STEPS)."""
    found = best(question_beside(book, old))
    if found[0] == "none":
        return found
    _, plan, _, price, paper = found
    return ("plan", plan, moves_of(book, old, plan), price, paper)


def moved_tasks(book, old, plan):
    """The SET of the tasks whose item of `old` is one of their spots and not the plan's."""
    question_beside(book, old)
    return moves_of(book, old, plan)


def is_pairs(many, value):
    """Whether a value tells for new tasks which of so many old ones they were, unlike ones, or None."""
    if not isinstance(value, tuple) or len(value) > MOST_TASKS:
        return False
    if not all(number is None or is_within(number, 0, many - 1) for number in value):
        return False
    known = [number for number in value if number is not None]
    return len(set(known)) == len(known)


def carried(old, pairs):
    """The items of an old plan for the tasks of another book."""
    if not isinstance(old, tuple) or len(old) > MOST_TASKS:
        raise BadPlan(())
    for index, item in enumerate(old):
        if item is not None and not is_standing(item):
            raise BadPlan((index,))
    if not is_pairs(len(old), pairs):
        raise BadParameter(pairs)
    return tuple([None if number is None else old[number] for number in pairs])
