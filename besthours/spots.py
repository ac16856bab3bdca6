"""The spots of tasks; the book (at least its days to its tasks) is right already."""

from besthours.checks import is_standing
from besthours.hours import starts_in


def task_starts(days, task):
    """The hours at which a task may begin with all its hours on one day, ascending."""
    length, starts = task[0], task[1]
    return [hour for hour in starts_in(days, length) if starts is None or hour in starts]


def task_rooms(rooms, groups, task):
    """The rooms that a task may have, ascending; None alone if it needs none."""
    attending, features = task[3], task[4]
    if features is None:
        return [None]
    size = sum(groups[group] for group in attending)
    return [
        number for number, (seats, has) in enumerate(rooms)
        if seats >= size and all(feature in has for feature in features)
    ]


def free_starts(may, length):
    """The hours from which on somebody may for `length` hours, on whatever days."""
    # the hours ascend and are unlike, so they are neighbours exactly if the last one is near enough
    back = length - 1
    return [may[at] for at in range(len(may) - back) if may[at + back] == may[at] + back]


def task_people(people, task, starts):
    """For each of the hours `starts` those who may do a task that begins there; None alone for nobody."""
    length, able = task[0], task[2]
    if able == ():
        return {hour: [None] for hour in starts}
    who = {hour: [] for hour in starts}
    for person in able:
        for hour in free_starts(people[person], length):
            if hour in who:
                who[hour].append(person)
    return who


def count_spots(book, task):
    """How many spots a task has (the task itself, not its number)."""
    days, rooms, people, groups = book[:4]
    who = task_people(people, task, task_starts(days, task))
    return len(task_rooms(rooms, groups, task)) * sum(len(row) for row in who.values())


def task_spots(book, number):
    """The spots of the task with a number, ascending."""
    days, rooms, people, groups, tasks = book[:5]
    task = tasks[number]
    starts = task_starts(days, task)
    fit = task_rooms(rooms, groups, task)
    who = task_people(people, task, starts)
    return tuple((hour, room, person) for hour in starts for room in fit for person in who[hour])


def all_spots(book):
    """The spots of all tasks, in the tasks' order."""
    return [task_spots(book, number) for number in range(len(book[4]))]


def is_spot(spots, value):
    """Whether a value is one of some spots."""
    # the kinds are asked first, for True is 1 as Python compares
    return is_standing(value) and value in spots


def spot_price(task, spot):
    """The price of a spot of a task (the task itself)."""
    return dict(task[5]).get(spot[0], 0)
