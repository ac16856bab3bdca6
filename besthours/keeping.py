"""When a plan keeps a rule; book, rule and plan are right already."""

from besthours.hours import day_at, hours_at


def hours_of_spot(task, spot):
    """The hours that a task (the task itself) holds at a spot."""
    return tuple(range(spot[0], spot[0] + task[0]))


def held_by(book, plan, number):
    """The hours that the spot of a task holds."""
    return hours_of_spot(book[4][number], plan[number])


def spot_in_at(task, spot, at):
    """Whether a spot of a task (the task itself) is in AT."""
    hours, rooms, people = at
    _, room, person = spot
    if hours is not None and not any(hour in hours for hour in hours_of_spot(task, spot)):
        return False
    return (rooms is None or room in rooms) and (people is None or person in people)


def those_in_at(book, what, plan):
    """The tasks of a "least", "most" or "load" that are in its AT."""
    return [number for number in what[1] if spot_in_at(book[4][number], plan[number], what[2])]


def keeps_least(book, what, plan):
    return len(those_in_at(book, what, plan)) >= what[3]


def keeps_most(book, what, plan):
    return len(those_in_at(book, what, plan)) <= what[3]


def load_of(book, what, plan):
    """The LENGTHs of the tasks of a "load" that are in its AT, together."""
    return sum(book[4][number][0] for number in those_in_at(book, what, plan))


def keeps_load(book, what, plan):
    return what[3] <= load_of(book, what, plan) <= what[4]


def keeps_before(book, what, plan):
    _, one, other, gap = what
    return plan[other][0] - held_by(book, plan, one)[-1] >= gap


def sort_of_spot(days, spot, sort):
    """The thing of the SORT that a spot has."""
    hour, room, person = spot
    if sort == "day":
        return day_at(days, hour)
    if sort == "start":
        return hour
    return room if sort == "room" else person


def keeps_alike(book, what, plan):
    _, one, other, sort = what
    return sort_of_spot(book[0], plan[one], sort) == sort_of_spot(book[0], plan[other], sort)


def keeps_unlike(book, what, plan):
    return not keeps_alike(book, what, plan)


def spot_has_who(task, spot, who):
    """Whether a task (the task itself) has WHO at a spot."""
    word, value = who
    return spot[2] == value if word == "person" else value in task[3]


def is_close(hours):
    """Whether hours are neighbours, some of them perhaps told more than once."""
    return hours == [] or max(hours) - min(hours) == len(set(hours)) - 1


def keeps_close(book, what, plan):
    _, who, tasks = what
    those = [number for number in tasks if spot_has_who(book[4][number], plan[number], who)]
    held = [hour for number in those for hour in held_by(book, plan, number)]
    for day in range(len(book[0])):
        hours = hours_at(book[0], day)
        if not is_close([hour for hour in held if hour in hours]):
            return False
    return True


KEEPERS = {
    "least": keeps_least,
    "most": keeps_most,
    "load": keeps_load,
    "before": keeps_before,
    "alike": keeps_alike,
    "unlike": keeps_unlike,
    "close": keeps_close,
}


def is_kept(book, rule, plan):
    """Whether a plan keeps a rule, whatever its price."""
    what = rule[0]
    keeper = KEEPERS[what[0]]
    return keeper(book, what, plan)
