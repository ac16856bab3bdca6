"""Questions, and their rows: a value for each task and for each rule with a price."""

from besthours.book import need_book, need_plan, plan_row
from besthours.checks import is_row, is_set, is_within
from besthours.errors import BadQuestion, NoRow, TooGreat
from besthours.meaning import is_old, unkept
from besthours.spots import all_spots, spot_price
from besthours.sums import need_row_of

MOST_DEMANDS = 40000

# how many sums an "alike" or "unlike" is counted for, beside one for each hour
MOST_ALIKE = 45


def rule_demands(hours, what):
    """How many sums a rule may ask for."""
    word = what[0]
    if word == "least" or word == "most":
        return 1
    if word == "load":
        return 2
    if word == "before":
        return hours
    if word == "close":
        many = len(what[2])
        return hours * many * (many - 1)
    return hours + MOST_ALIKE


def count_demands(book):
    """How many sums a book may ask for."""
    days, rooms, people, groups, _, rules = book
    hours = sum(days)
    always = hours * (len(rooms) + len(people) + len(groups))
    return always + sum(rule_demands(hours, what) for what, _ in rules)


def is_fixing(spots, value, least):
    """Whether a value is a pair of a task from `least` on and a SET of numbers of its spots."""
    if not is_row(value, 2) or not is_within(value[0], least, len(spots) - 1):
        return False
    return is_set(value[1], len(spots[value[0]]) - 1)


def need_fixed(book, fixed):
    """Refuse what is no FIXED of a question of the book."""
    if not isinstance(fixed, tuple):
        raise BadQuestion((2,))
    spots = all_spots(book)
    least = 0
    for index, value in enumerate(fixed):
        if not is_fixing(spots, value, least):
            raise BadQuestion((2, index))
        least = value[0] + 1


def need_question(question):
    """A question as it is handed in."""
    if not is_row(question, 3):
        raise BadQuestion(())
    book, old, fixed = question
    need_book(book)
    if old is not None and not is_old(book, old):
        raise BadQuestion((1,))
    need_fixed(book, fixed)
    if count_demands(book) > MOST_DEMANDS:
        raise TooGreat(MOST_DEMANDS)
    return question


def priced_rules(book):
    """The numbers of the rules with a price, ascending."""
    return [number for number, rule in enumerate(book[5]) if rule[1] is not None]


def choice_sizes(book):
    """How many values the choices of a question of the book have."""
    # a task without spots has the one value 0, for none
    spots = [max(1, len(those)) for those in all_spots(book)]
    return tuple(spots + [2 for _ in priced_rules(book)])


def need_row(question, row):
    """A row of a question as it is handed in."""
    need_question(question)
    return need_row_of(choice_sizes(question[0]), row)


def sizes(question):
    """How many values the choices have: the tasks, then the rules with a price."""
    need_question(question)
    return choice_sizes(question[0])


def plan_of(question, row):
    """The plan of a row."""
    need_row(question, row)
    spots = all_spots(question[0])
    if () in spots:
        raise NoRow()
    return tuple(those[value] for those, value in zip(spots, row))


def row_of(question, plan):
    """The row of a plan, each rule with a price being 1 exactly if the plan breaks it."""
    need_question(question)
    book = question[0]
    need_plan(book, plan)
    wrong = unkept(book, plan)
    return plan_row(book, plan) + tuple(1 if number in wrong else 0 for number in priced_rules(book))


def row_moves(question, row):
    """How many tasks have a spot of theirs in OLD and another value than that."""
    need_row(question, row)
    book, old, _ = question
    if old is None:
        return 0
    moved = [
        item for spots, item, value in zip(all_spots(book), old, row)
        if item in spots and spots[value] != item
    ]
    return len(moved)


def row_price(question, row):
    """The prices of the spots of a row and of the rules whose choice is 1, together."""
    need_row(question, row)
    book = question[0]
    total = 0
    for task, spots, value in zip(book[4], all_spots(book), row):
        if spots != ():
            total = total + spot_price(task, spots[value])
    priced = [book[5][number][1] for number in priced_rules(book)]
    return total + sum(price for price, value in zip(priced, row[len(book[4]):]) if value == 1)
