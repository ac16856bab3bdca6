"""Asks: whether a task may be at a spot, why the best plan hasn't it there, and what a swap moves."""

from besthours.best import best
from besthours.book import need_plan
from besthours.checks import is_set
from besthours.choices import need_question
from besthours.errors import BadParameter, NoRow
from besthours.holding import held_question, need_spot, need_task
from besthours.spots import task_spots


def held_to(question, task, spots):
    """The question in which a task is let at the spots with these numbers alone, as far as FIXED lets it there."""
    need_task(need_question(question), task)
    if not is_set(spots, len(task_spots(question[0], task)) - 1):
        raise BadParameter(spots)
    return held_question(question, task, spots)


def may(question, task, spot):
    """What `best` tells if the task is held to the spot."""
    need_task(need_question(question), task)
    need_spot(question, task, spot)
    return best(held_question(question, task, (spot,)))


def why_not(question, task, spot):
    """Why the best plan hasn't the task at the spot, or ("best",) if it has."""
    need_task(need_question(question), task)
    need_spot(question, task, spot)
    found = best(question)
    if found[0] == "none":
        raise NoRow()
    if found[1][task] == task_spots(question[0], task)[spot]:
        return ("best",)
    answer = may(question, task, spot)
    if answer[0] == "none":
        return answer
    moves, price = answer[2] - found[2], answer[3] - found[3]
    if moves > 0:
        return ("moves", moves, answer)
    if price > 0:
        return ("dearer", price, answer)
    return ("later", answer)


def swap(question, plan, task, spot):
    """What `best` tells beside a plan if the task is held to the spot: the fewest moves that bring it there."""
    book, _, fixed = need_question(question)
    need_plan(book, plan)
    need_task(question, task)
    need_spot(question, task, spot)
    return best(held_question((book, plan, fixed), task, (spot,)))
