"""Tasks on hours with rooms: placings, and lots of tasks that show there is none."""

from besthours.checks import is_integer, is_row, is_set, is_within
from besthours.errors import BadParameter, NoRow
from besthours.placing import ordered, place_all
from besthours.steps import add_sums, flat_terms
from besthours.sums import form

MOST_TASKS = 60
LAST_HOUR = 99
MOST_ROOMS = 60


def is_tasks(value):
    """Whether a value is a tuple of SETs of hours."""
    if not isinstance(value, tuple) or not 1 <= len(value) <= MOST_TASKS:
        return False
    return all(is_set(hours, LAST_HOUR) for hours in value)


def is_rooms(tasks, value):
    """Whether a value tells how many rooms there are at each hour of tasks, which are right already."""
    if not isinstance(value, tuple) or not 1 <= len(value) <= LAST_HOUR + 1:
        return False
    if not all(is_within(many, 0, MOST_ROOMS) for many in value):
        return False
    return all(hours == () or hours[-1] < len(value) for hours in tasks)


def need_rooms(tasks, rooms):
    """Rooms for tasks that are right already, as they are handed in."""
    if not is_rooms(tasks, rooms):
        raise BadParameter(rooms)
    return rooms


def need_placeable(tasks, rooms):
    """Refuse what are no tasks, and what are no rooms for them."""
    if not is_tasks(tasks):
        raise BadParameter(tasks)
    need_rooms(tasks, rooms)


def need_held(tasks, rooms):
    """Refuse what are no tasks with an hour each, and what are no rooms for them."""
    if not is_tasks(tasks) or () in tasks:
        raise BadParameter(tasks)
    need_rooms(tasks, rooms)


def free_prices(tasks):
    """Prices of nothing for all hours of tasks."""
    return [{hour: 0 for hour in hours} for hours in tasks]


def hours_of(tasks):
    """All hours at which some task may be held, ascending."""
    return sorted(set([hour for hours in tasks for hour in hours]))


def is_lot_of(tasks, rooms, value):
    """Whether a value is a lot; tasks and rooms are right already."""
    if not is_set(value, len(tasks) - 1):
        return False
    return sum([rooms[hour] for hour in hours_of([tasks[task] for task in value])]) < len(value)


def hour_sum(tasks, rooms, hour):
    """The sum that no more tasks are held at an hour than it has rooms."""
    terms = [(task, tuple([0 if one == hour else 1 for one in hours])) for task, hours in enumerate(tasks)]
    return form(terms, len(tasks) - rooms[hour])


def all_hour_sums(tasks, rooms):
    """The sums of all hours at which some task may be held; tasks and rooms are right already."""
    return tuple([hour_sum(tasks, rooms, hour) for hour in hours_of(tasks)])


def matching(tasks, rooms):
    """("plan", PLACING), or ("lot", LOT) if there is none."""
    need_placeable(tasks, rooms)
    placing, lot = place_all(free_prices(tasks), rooms)
    return ("plan", placing.told()) if lot == () else ("lot", lot)


def is_placing(tasks, rooms, value):
    """Whether a value is a placing."""
    need_placeable(tasks, rooms)
    if not is_row(value, len(tasks)):
        return False
    if not all(is_integer(hour) and hour in hours for hour, hours in zip(value, tasks)):
        return False
    return all(value.count(hour) <= rooms[hour] for hour in value)


def is_lot(tasks, rooms, value):
    """Whether a value is a lot."""
    need_placeable(tasks, rooms)
    return is_lot_of(tasks, rooms, value)


def least_placing(tasks, rooms):
    """The least placing."""
    need_placeable(tasks, rooms)
    placing, lot = place_all(ordered(free_prices(tasks)), rooms)
    if lot != ():
        raise NoRow()
    return placing.told()


def hour_sums(tasks, rooms):
    """The tuple of the sums, one for each hour at which some task may be held, ascending."""
    need_held(tasks, rooms)
    return all_hour_sums(tasks, rooms)


def lot_steps(tasks, rooms, lot):
    """The proof, by the sums of the hours, that a lot can't be placed."""
    need_held(tasks, rooms)
    if not is_lot_of(tasks, rooms, lot):
        raise BadParameter(lot)
    sums = all_hour_sums(tasks, rooms)
    every = hours_of(tasks)
    numbers = [every.index(hour) for hour in hours_of([tasks[task] for task in lot])]
    steps = [("demand", number) for number in numbers]
    steps.append(("add", tuple([(step, 1) for step in range(len(numbers))])))
    flat = flat_terms(add_sums([(sums[number], 1) for number in numbers]))
    if flat != ():
        steps.append(("raise", len(numbers), flat))
    return tuple(steps)
