"""What several tests need: a way to ask for refusals, odd values, and books."""

import random
import unittest


class Odd:
    """A thing that says it is equal to everything."""

    def __eq__(self, other):
        return True

    __hash__ = None


# values of kinds that are asked for nowhere, and True and False
ODD = (True, False, "x", b"x", 1.0, 0.0, [], [1], {}, {1}, object(), Odd(), len, float("nan"))
NO_INTEGERS = ODD + ((), (1,))
NO_TUPLES = ODD + (0, 1, -1, 10 ** 5000)
NO_WORDS = (None, 0, (), b"day", ["day"], True, Odd(), "", "Day", "day ", "hour")


def told(args):
    """What a failing test says of its arguments; numbers of many figures can't be told."""
    try:
        return repr(args)[:300]
    except ValueError:
        return "(a great number)"


class Case(unittest.TestCase):
    """A test case that asks for refusals with their attributes."""

    def refused(self, error, attributes, function, *args, **named):
        """The call must raise just this error with just these attributes."""
        with self.assertRaises(ValueError) as caught:
            function(*args, **named)
        raised = caught.exception
        self.assertIs(type(raised), error, told(args))
        for name, value in attributes.items():
            seen = getattr(raised, name)
            if any(value is item for item in (*args, *named.values())):
                self.assertIs(seen, value)
            elif seen is not value:
                self.assertEqual(seen, value, told(args))
                self.assertIs(type(seen), type(value))

    def unchangeable(self, value):
        """All of the value is of kinds in which nothing can be changed."""
        if type(value) is tuple:
            for item in value:
                self.unchangeable(item)
        else:
            self.assertTrue(value is None or type(value) in (int, str, bool), repr(value))


def changed(value, place, new):
    """The value with something new at a place, a row of indexes."""
    if not place:
        return new
    index = place[0]
    return value[:index] + (changed(value[index], place[1:], new),) + value[index + 1:]


def task(length=1, starts=None, people=(), groups=(), features=None, prices=()):
    return (length, starts, people, groups, features, prices)


def book(days=(4,), rooms=(), people=(), groups=(), tasks=(), rules=()):
    return (days, rooms, people, groups, tasks, rules)


EMPTY = book()

# the book of the example of part A
EXAMPLE = book((3, 2), ((30, (1,)),), ((0, 1, 2, 3),), (25,), (task(2, None, (0,), (0,), (), ()),))

# two days, three rooms, two people, two groups, five tasks, the last one without a spot
RICH = (
    (3, 2),
    ((30, (1,)), (20, ()), (40, (1, 2))),
    ((0, 1, 2, 3), (1, 2, 4)),
    (25, 10),
    (
        (1, None, (0, 1), (0,), (1,), ((0, 5), (2, 7))),
        (2, (0, 1, 3), (0,), (1,), (), ()),
        (1, (2, 4), (), (), None, ((4, 1000000),)),
        (3, None, (), (0, 1), None, ()),
        (4, None, (), (), None, ()),
    ),
    (
        (("least", (0, 1), ((0, 1), None, (0,)), 1), None),
        (("most", (0, 1, 2), (None, (0, 2), None), 2), 3),
        (("load", (0, 3), (None, None, None), 0, 160), 10 ** 6),
        (("before", 0, 2, 1), None),
        (("alike", 1, 0, "room"), 1),
        (("unlike", 0, 4, "day"), None),
        (("close", ("group", 1), (1, 3)), 2),
        (("close", ("person", 0), ()), None),
    ),
)

# the same without the task that has no spot
MEETABLE = RICH[:4] + (RICH[4][:4], RICH[5][:5] + RICH[5][6:])


def is_in_days(days, hour, length):
    """Whether the hours are of one day, told without the package."""
    day_of_hour = [day for day, many in enumerate(days) for _ in range(many)]
    held = day_of_hour[hour:hour + length]
    return len(held) == length and len(set(held)) == 1


def spots_by_hand(a_book, number):
    """All spots of a task, found by trying everything."""
    days, rooms, people, groups, tasks, _ = a_book
    length, starts, able, attending, features, _ = tasks[number]
    found = []
    for hour in range(sum(days)):
        for room in [None, *range(len(rooms))]:
            for person in [None, *range(len(people))]:
                if not is_in_days(days, hour, length) or (starts is not None and hour not in starts):
                    continue
                if (room is None) != (features is None) or (person is None) != (able == ()):
                    continue
                if room is not None:
                    seats, has = rooms[room]
                    if not set(features) <= set(has) or seats < sum(groups[one] for one in attending):
                        continue
                if person is not None:
                    if person not in able or not set(range(hour, hour + length)) <= set(people[person]):
                        continue
                found.append((hour, room, person))
    return tuple(found)


class Maker:
    """Small books, rules and plans by chance, the same ones in each run."""

    def __init__(self, seed):
        self.chance = random.Random(seed)

    def set_of(self, many, likely=0.5):
        return tuple(item for item in range(many) if self.chance.random() < likely)

    def any_of(self, many):
        return None if self.chance.random() < 0.5 else self.set_of(many, 0.6)

    def task(self, days, people, groups):
        hours = sum(days)
        return (
            self.chance.choice((1, 1, 1, 2, 2, 3, 4)),
            None if self.chance.random() < 0.5 else self.set_of(hours, 0.7),
            self.set_of(people, 0.4),
            self.set_of(groups, 0.4),
            self.chance.choice((None, (), (0,), (0, 1))),
            tuple((hour, self.chance.randint(1, 9)) for hour in self.set_of(hours, 0.3)),
        )

    def at(self, a_book):
        return (self.any_of(sum(a_book[0])), self.any_of(len(a_book[1])), self.any_of(len(a_book[2])))

    def who(self, a_book):
        kinds = [("person", number) for number in range(len(a_book[2]))]
        kinds += [("group", number) for number in range(len(a_book[3]))]
        return self.chance.choice(kinds)

    def what(self, a_book):
        many = len(a_book[4])
        words = ["least", "most", "load"]
        if many > 1:
            words += ["before", "alike", "unlike"]
        if a_book[2] or a_book[3]:
            words += ["close", "close"]
        word = self.chance.choice(words)
        if word in ("least", "most"):
            return (word, self.set_of(many, 0.8), self.at(a_book), self.chance.randint(0, many))
        if word == "load":
            low = self.chance.randint(0, 4)
            return (word, self.set_of(many, 0.8), self.at(a_book), low, self.chance.randint(low, 6))
        if word == "close":
            return (word, self.who(a_book), self.set_of(many, 0.9))
        one, other = self.chance.sample(range(many), 2)
        if word == "before":
            return (word, one, other, self.chance.randint(0, 3))
        return (word, one, other, self.chance.choice(("day", "start", "room", "person")))

    def book(self, rules=5):
        days = tuple(self.chance.randint(1, 5) for _ in range(self.chance.randint(1, 3)))
        rooms = tuple(
            (self.chance.choice((0, 10, 20, 40)), self.set_of(3)) for _ in range(self.chance.randint(0, 3))
        )
        people = tuple(self.set_of(sum(days), 0.8) for _ in range(self.chance.randint(0, 3)))
        groups = tuple(self.chance.choice((0, 5, 10, 20)) for _ in range(self.chance.randint(0, 3)))
        many = self.chance.randint(0, 5)
        tasks = tuple(self.task(days, len(people), len(groups)) for _ in range(many))
        made = (days, rooms, people, groups, tasks, ())
        told = tuple(
            (self.what(made), self.chance.choice((None, 1, 2, 5))) for _ in range(self.chance.randint(0, rules))
        )
        return made[:5] + (told,)

    def meetable_book(self):
        """A book whose tasks all have a spot."""
        made = self.book()
        while not all(spots_by_hand(made, number) for number in range(len(made[4]))):
            made = self.book()
        return made

    def plan(self, a_book):
        spots = [spots_by_hand(a_book, number) for number in range(len(a_book[4]))]
        return tuple(self.chance.choice(those) for those in spots)


class Crowd(Maker):
    """Books of two or three tasks that are in each other's way, and questions of these, the same ones in each run."""

    def book(self, rules=3):
        chance = self.chance
        days = chance.choice(((2,), (3,), (4,), (2, 1), (1, 2), (2, 2), (3, 2)))
        hours = sum(days)
        rooms = tuple((chance.choice((10, 20)), self.set_of(2)) for _ in range(chance.randint(1, 2)))
        people = tuple(self.set_of(hours, 0.85) for _ in range(chance.randint(1, 2)))
        groups = tuple(chance.choice((0, 5, 10)) for _ in range(chance.randint(1, 2)))
        tasks = tuple(self.task(days, len(people), len(groups)) for _ in range(chance.randint(2, 3)))
        made = (days, rooms, people, groups, tasks, ())
        told = tuple(
            (self.what(made), chance.choice((None, 1, 2, 5))) for _ in range(chance.randint(0, rules))
        )
        return made[:5] + (told,)

    def task(self, days, people, groups):
        hours = sum(days)
        return (
            self.chance.choice((1, 1, 1, 2)),
            None if self.chance.random() < 0.8 else self.set_of(hours, 0.8),
            self.set_of(people, 0.5),
            self.set_of(groups, 0.7),
            self.chance.choice((None, (), ())),
            tuple((hour, self.chance.randint(1, 4)) for hour in self.set_of(hours, 0.4)),
        )

    def small_book(self, most_plans=200, rules=3):
        """A book with so many plans at most, those that keep nothing among them."""
        while True:
            made = self.book(rules)
            many = 1
            for number in range(len(made[4])):
                many *= len(spots_by_hand(made, number))
            if many <= most_plans and (many > 0 or self.chance.random() < 0.2):
                return made

    def old(self, a_book):
        """For each task one of its spots, a spot that is none of its, or None."""
        chosen = []
        for number in range(len(a_book[4])):
            spots = spots_by_hand(a_book, number)
            chosen.append(self.chance.choice(3 * spots[:2] + spots + (None, (83, None, 29))))
        return tuple(chosen)

    def fixed(self, a_book):
        """FIXED, most of the spots let."""
        return tuple(
            (number, self.set_of(len(spots_by_hand(a_book, number)), 0.75))
            for number in range(len(a_book[4])) if self.chance.random() < 0.5)

    def question(self, most_plans=200, rules=3):
        a_book = self.small_book(most_plans, rules)
        old = self.old(a_book) if self.chance.random() < 0.6 else None
        return (a_book, old, self.fixed(a_book) if self.chance.random() < 0.5 else ())
