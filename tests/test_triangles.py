"""What three sums say together: of what two of them name at most one can be."""

import itertools
import unittest

from besthours.best import best
from besthours.checking import is_best_paper, is_refutation
from besthours.choices import row_of, sizes
from besthours.demands import demands, keeps_all
from besthours.mixing import WHOLE
from besthours.store import Store
from besthours.sums import kept_by, need_sum
from besthours.triangles import is_lone, shares_of, triangle_sums
from placements import led
from samples import Case, Crowd, book, task

HALF = WHOLE // 2
# three tasks, each two of which share something, but not all three the same
THREE = (task(1, None, (0,), (0,)), task(1, None, (), (0,), ()), task(1, None, (0,), (), ()))


def three_kinds(first, second, third, hours):
    """So many tasks of each kind: with the group and the person, the group and the room, the person and the room."""
    tasks = (THREE[0],) * first + (THREE[1],) * second + (THREE[2],) * third
    return (book((hours,), ((0, ()),), (tuple(range(hours)),), (0,), tasks), None, ())


def sums_of_demands(question):
    return [one for _, one in demands(question)]


def told_of(many, sums, shares):
    """(SUM, LED, TAGS) of the triangles of some sums, LED what their steps lead to."""
    store = Store(many)
    for number, one in enumerate(sums):
        store.add_sum(one, ("demand", number), 1 << number)
    found = triangle_sums(store, range(len(sums)), shares)
    lines = led(many, sums, store.steps)
    return [(one, lines[step], tags) for one, step, tags in found]


class Triangles(Case):
    def test_three_tasks_at_an_hour(self):
        question = three_kinds(1, 1, 1, 2)
        shares = [(choice, value, HALF) for choice in range(3) for value in range(2)]
        found = told_of(sizes(question), sums_of_demands(question), shares)
        wanted = [(tuple((at, own) for at in range(3)), 2) for own in ((0, 1), (1, 0))]
        self.assertEqual(sorted(one for one, _, _ in found), sorted(wanted))
        for one, line, tags in found:
            self.assertEqual(one, line)
            self.assertEqual(bin(tags).count("1"), 3)
        # whoever keeps them finds none
        self.assertEqual(told_of(sizes(question), sums_of_demands(question), [(0, 0, WHOLE), (1, 1, WHOLE)]), [])
        self.assertEqual(told_of(sizes(question), sums_of_demands(question), []), [])

    def test_what_is_lone(self):
        self.assertIs(is_lone((((0, (0, 1)), (1, (1, 0))), 1)), True)
        self.assertIs(is_lone((((0, (0, 1)), (1, (1, 0)), (4, (1, 0))), 2)), True)
        for one in (((), 1), ((), 0), (((0, (0, 1)),), 1), (((0, (0, 2)), (1, (1, 0))), 1), (((0, (0, 1)), (1, (1, 0))), 2)):
            self.assertIs(is_lone(one), False)
        self.assertEqual(shares_of([(5, [1, 2]), (7, [2, 3, 4]), (11, [3, 9])], (1, 2, 3)), 12)

    def test_what_is_said_follows(self):
        # of small books: whatever row keeps the demands keeps each triangle, and its steps lead to it
        crowd = Crowd(321)
        found = 0
        for _ in range(250):
            question = crowd.question(60, 1)
            many = sizes(question)
            sums = sums_of_demands(question)
            shares = [(choice, value, WHOLE * 2 // 3) for choice, own in enumerate(many) for value in range(own)]
            rows = [row for row in itertools.product(*(range(own) for own in many)) if keeps_all(question, row)]
            for one, line, _ in told_of(many, sums, shares):
                found += 1
                self.assertEqual(one, line)
                self.assertEqual(need_sum(many, one), one)
                self.assertTrue(all(kept_by(many, one, row) for row in rows))
        self.assertGreater(found, 100)

    def test_one_hour_too_few(self):
        # eleven tasks in ten hours no resource of which is full
        for kinds in ((4, 4, 3), (5, 3, 3), (1, 5, 5)):
            question = three_kinds(*kinds, 10)
            found = best(question)
            self.assertEqual(found[0], "none")
            self.assertIs(is_refutation(question, (), found[1]), True)
            question = three_kinds(*kinds, 11)
            found = best(question)
            self.assertEqual(tuple(spot[0] for spot in found[1]), tuple(range(11)))
            self.assertIs(is_best_paper(question, row_of(question, found[1]), found[4]), True)

    def test_long_tasks_on_several_days(self):
        # two groups, a person and a room, of which none has more than eleven of the twelve hours
        one, other = (0,), (1,)
        tasks = (
            task(1, None, (0,), one, ()), task(1, None, (0,), one, ()), task(1, None, (), one), task(1, None, (), one),
            task(1, None, (0,), one), task(2, None, (), one), task(1, None, (), one, ()), task(1, None, (), one, ()),
            task(1, None, (0,), one, ()), task(1, None, (), one, ()), task(1, None, (), other, ()),
            task(1, None, (0,), other), task(2, None, (), other, ()), task(2, None, (0,), other),
            task(2, None, (0,), other), task(1, None, (0,), other), task(1, None, (), other, ()))
        question = (book((4, 4, 4), ((30, ()),), (tuple(range(12)),), (10, 10), tasks), None, ())
        found = best(question)
        self.assertEqual(found[0], "none")
        self.assertIs(is_refutation(question, (), found[1]), True)


if __name__ == "__main__":
    unittest.main()
