"""What the tests of placings need: tasks and rooms by a fixed rule, placings by trying all, and proofs led on."""

import itertools
import random

from besthours.steps import added, capped, divided, raised


def rows_of(tasks):
    """All rows of hours of the tasks."""
    return itertools.product(*tasks)


def placings(tasks, rooms):
    """All placings, ascending, by trying all rows."""
    return [row for row in rows_of(tasks) if all(row.count(hour) <= rooms[hour] for hour in row)]


def row_of_hours(tasks, hours):
    """The values of the tasks' choices at these hours."""
    return tuple(own.index(hour) for own, hour in zip(tasks, hours))


def led(sizes, asked, steps):
    """The sums of steps, one by one, by the functions of besthours.steps."""
    sums = []
    for step in steps:
        word = step[0]
        if word == "demand":
            sums.append(asked[step[1]])
        elif word == "add":
            sums.append(added(sizes, tuple((sums[number], times) for number, times in step[1])))
        elif word == "divide":
            sums.append(divided(sizes, sums[step[1]], step[2]))
        elif word == "cap":
            sums.append(capped(sizes, sums[step[1]]))
        else:
            sums.append(raised(sizes, sums[step[1]], step[2]))
    return sums


class Drawer:
    """Tasks, rooms and prices by chance, the same ones in each run."""

    def __init__(self, seed):
        self.chance = random.Random(seed)

    def tasks(self, least=0, most=5, hours=5):
        """One to some tasks; each with so many hours at least."""
        last = self.chance.randint(1, hours)
        found = []
        for _ in range(self.chance.randint(1, most)):
            own = tuple(hour for hour in range(last) if self.chance.random() < 0.5)
            while len(own) < least:
                own = (self.chance.randrange(last),)
            found.append(own)
        return tuple(found)

    def rooms(self, tasks, most=2):
        last = max((hour for own in tasks for hour in own), default=-1)
        many = last + 1 + self.chance.choice((0, 0, 1, 2))
        return tuple(self.chance.choice(range(most + 1)) for _ in range(max(1, many)))

    def hidden(self, many, hours, likely):
        """So many tasks on so many hours with a room each, a placing hidden in them: (TASKS, PLACING)."""
        placing = self.chance.sample(range(hours), many)
        tasks = tuple(
            tuple(hour for hour in range(hours) if hour == own or self.chance.random() < likely) for own in placing)
        return tasks, tuple(placing)
