"""Questions in which tasks are held to some of their spots, and the plans that a question lets."""

from besthours.book import plan_fault, plan_row
from besthours.checks import is_set, is_within
from besthours.choices import need_question
from besthours.errors import BadParameter
from besthours.meaning import broken
from besthours.rules import is_at
from besthours.spots import task_spots


def is_let(question, plan):
    """Whether a plan keeps the book and FIXED of a question."""
    book, _, fixed = question
    row = plan_row(book, plan)
    return broken(book, plan) is None and all(row[task] in numbers for task, numbers in fixed)


def is_let_plan(question, value):
    """Whether a value of any kind is a plan that a question, which is right already, lets."""
    return plan_fault(question[0], value) is None and is_let(question, value)


def held_question(question, task, numbers):
    """The question in which a task is held to the spots with these numbers, as far as FIXED lets it there."""
    book, old, fixed = question
    pairs = dict(fixed)
    let = pairs.get(task, numbers)
    pairs[task] = tuple([number for number in numbers if number in let])
    return (book, old, tuple([(one, pairs[one]) for one in sorted(pairs)]))


def need_task(question, task):
    """The number of a task of a question's book, as it is handed in; the question is right already."""
    if not is_within(task, 0, len(question[0][4]) - 1):
        raise BadParameter(task)
    return task


def need_spot(question, task, spot):
    """The number of a spot of a task, as it is handed in; question and task are right already."""
    if not is_within(spot, 0, len(task_spots(question[0], task)) - 1):
        raise BadParameter(spot)
    return spot


def need_tasks_at(question, tasks, at):
    """Refuse what is no question, no SET of its tasks, no AT of its book."""
    book = need_question(question)[0]
    if not is_set(tasks, len(book[4]) - 1):
        raise BadParameter(tasks)
    if not is_at(book, at):
        raise BadParameter(at)
