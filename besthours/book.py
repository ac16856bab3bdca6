"""Books, the spots of their tasks, and plans."""

from besthours.checks import is_priced, is_row, is_set, is_set_or_none, is_within
from besthours.errors import BadBook, BadParameter, BadPlan, TooGreat
from besthours.hours import MOST_LENGTH, is_days
from besthours.rules import MOST_PRICE, rule_fault
from besthours.spots import all_spots, count_spots, is_spot, task_spots

# how many parts a book has, and the most things of rooms, people, groups, tasks and rules
PARTS = 6
MOST_THINGS = {1: 12, 2: 30, 3: 30, 4: 40, 5: 40}
MOST_SIZE = 1000
LAST_FEATURE = 7
MOST_SPOTS = 200


def is_room(value):
    """Whether a value is a room."""
    return is_row(value, 2) and is_within(value[0], 0, MOST_SIZE) and is_set(value[1], LAST_FEATURE)


def is_task(book, value):
    """Whether a value is a task; the book's days to its groups are right already."""
    if not is_row(value, 6):
        return False
    last = sum(book[0]) - 1
    length, starts, able, attending, features, prices = value
    if not is_within(length, 1, MOST_LENGTH) or not is_set_or_none(starts, last):
        return False
    if not is_set(able, len(book[2]) - 1) or not is_set(attending, len(book[3]) - 1):
        return False
    return is_set_or_none(features, LAST_FEATURE) and is_priced(prices, last, 1, MOST_PRICE)


def is_thing(book, number, value):
    """Whether a value may stand among the rooms (number 1), people, groups or tasks (4) of a book."""
    if number == 1:
        return is_room(value)
    if number == 2:
        return is_set(value, sum(book[0]) - 1)
    if number == 3:
        return is_within(value, 0, MOST_SIZE)
    return is_task(book, value)


def thing_fault(book, number, value):
    """The place of what is wrong in a thing of the part with a number, None if nothing is."""
    if number == 5:
        return rule_fault(book, value)
    return None if is_thing(book, number, value) else ()


def things_fault(book, number):
    """The place of what is wrong in the part of a book with a number, None if nothing is; those ahead are right."""
    things = book[number]
    if not isinstance(things, tuple) or len(things) > MOST_THINGS[number]:
        return (number,)
    for index, value in enumerate(things):
        place = thing_fault(book, number, value)
        if place is not None:
            return (number, index) + place
    return None


def book_fault(book):
    """The place of the first thing that is wrong in a book, None if nothing is."""
    if not is_row(book, PARTS):
        return ()
    if not is_days(book[0]):
        return (0,)
    for number in range(1, PARTS):
        place = things_fault(book, number)
        if place is not None:
            return place
    return None


def has_few_spots(book):
    """Whether no task of a book, in which nothing else is wrong, has too many spots."""
    return all(count_spots(book, task) <= MOST_SPOTS for task in book[4])


def is_book(value):
    """Whether a value is a book."""
    return book_fault(value) is None and has_few_spots(value)


def need_book(book):
    """A book as it is handed in."""
    place = book_fault(book)
    if place is not None:
        raise BadBook(place)
    if not has_few_spots(book):
        raise TooGreat(MOST_SPOTS)
    return book


def spots_of(book, task):
    """The spots of the task with a number, ascending."""
    need_book(book)
    if not is_within(task, 0, len(book[4]) - 1):
        raise BadParameter(task)
    return task_spots(book, task)


def plan_fault(book, plan):
    """The place of the first thing that is wrong in a plan, None if nothing is; the book is right already."""
    if not is_row(plan, len(book[4])):
        return ()
    for index, spots in enumerate(all_spots(book)):
        if not is_spot(spots, plan[index]):
            return (index,)
    return None


def need_plan(book, plan):
    """A plan as it is handed in."""
    need_book(book)
    place = plan_fault(book, plan)
    if place is not None:
        raise BadPlan(place)
    return plan


def plan_row(book, plan):
    """The numbers of the spots of a plan; both are right already."""
    return tuple(spots.index(spot) for spots, spot in zip(all_spots(book), plan))


def row_of_plan(book, plan):
    """The tuple of the numbers of the spots of a plan."""
    return plan_row(book, need_plan(book, plan))


def plan_of_row(book, row):
    """The plan at the spots with these numbers."""
    need_book(book)
    if not is_row(row, len(book[4])):
        raise BadParameter(row)
    spots = all_spots(book)
    if not all(is_within(value, 0, len(those) - 1) for value, those in zip(row, spots)):
        raise BadParameter(row)
    return tuple(those[value] for value, those in zip(row, spots))
