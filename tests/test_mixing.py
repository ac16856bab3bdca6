"""Multiples of sums that are broken when they are added: what is found is so, and what is wanted is found."""

import itertools
import random
import unittest

from besthours.asks import may
from besthours.best import best
from besthours.checking import is_best_paper, is_refutation
from besthours.choices import row_of
from besthours.loads import ruled
from besthours.matchings import hour_sums, matching
from besthours.mixing import WHOLE, brought_back, mixed
from besthours.prices import cheapest, least_cheapest
from besthours.steps import added
from besthours.sums import form_of, greatest_under
from placements import Drawer
from samples import book, task


def drawn_problem(chance):
    """(SIZES, SUMS) of a few choices."""
    sizes = tuple(chance.randint(1, 4) for _ in range(chance.randint(1, 4)))
    sums = []
    for _ in range(chance.randint(1, 6)):
        terms = tuple(
            (choice, tuple(chance.randint(0, 3) for _ in range(many)))
            for choice, many in enumerate(sizes) if chance.random() < 0.7)
        sums.append(form_of(sizes, terms, chance.randint(0, 6)))
    return sizes, tuple(one for one in sums if one[1] > 0)


class Mixing(unittest.TestCase):
    def judge(self, sizes, left, sums, turns=500):
        """The multiples, which the sets must break; {} if none were found."""
        times, mix = mixed(left, list(enumerate(sums)), turns, 10 ** 9, None)
        self.assertTrue(all(value in left[choice] for choice, value in mix.greatest().items()))
        if times:
            self.assertTrue(all(many > 0 for many in times.values()))
            one = added(sizes, tuple((sums[number], many) for number, many in times.items()))
            self.assertLess(greatest_under(sizes, one, left), one[1])
        return times

    def test_drawn(self):
        chance = random.Random(301)
        found = 0
        for _ in range(1500):
            sizes, sums = drawn_problem(chance)
            left = tuple(
                tuple(sorted(chance.sample(range(many), chance.randint(1, many)))) for many in sizes)
            times = self.judge(sizes, left, sums)
            rows = [
                row for row in itertools.product(*left)
                if all(sum(weights[row[choice]] for choice, weights in terms) >= bound for terms, bound in sums)]
            self.assertFalse(times and rows)
            found += times != {}
        self.assertGreater(found, 300)

    def test_lots_are_found(self):
        # where no placing is there, the sums of the hours alone are broken
        drawer = Drawer(302)
        tried = 0
        while tried < 100:
            tasks = drawer.tasks(1, 9, 6)
            rooms = drawer.rooms(tasks)
            sizes = tuple(len(own) for own in tasks)
            left = tuple(tuple(range(many)) for many in sizes)
            times = self.judge(sizes, left, hour_sums(tasks, rooms), 2000)
            self.assertEqual(times != {}, matching(tasks, rooms)[0] == "lot")
            tried += times != {}

    def test_nothing(self):
        self.assertEqual(mixed([], [], 10, 10, None)[0], {})
        self.assertEqual(mixed([(3,)], [], 10, 10, None)[0], {})
        self.assertEqual(mixed([(0,)], [(7, ((), 1))], 10, 10, None)[0], {7: 1})
        self.assertEqual(mixed([(0,)], [(7, ((), 1))], 10, 0, None)[0], {})
        self.assertEqual(mixed([(0,)], [(7, ((), 1))], 0, 10, None)[0], {})

    def test_going_on(self):
        # what takes many turns is found by going on again and again, too, some values being gone by then
        chance = random.Random(304)
        prices = [[chance.randint(1, 100) for _ in range(8)] for _ in range(8)]
        least = min(sum(row[hour] for row, hour in zip(prices, hours)) for hours in itertools.permutations(range(8)))
        tasks = (tuple(range(8)),) * 8
        sums = hour_sums(tasks, (1,) * 8)
        dear = form_of((8,) * 8, tuple((at, tuple(-one for one in row)) for at, row in enumerate(prices)), 1 - least)
        left, mix, tries = [tuple(range(8))] * 8, None, 0
        times = {}
        while not times:
            times, mix = mixed(left, list(enumerate(sums + (dear,))), 5, 10 ** 9, mix)
            tries += 1
            if tries == 2:
                worst = prices[0].index(max(prices[0]))
                left[0] = tuple(value for value in left[0] if value != worst)
        self.assertGreater(tries, 2)
        one = added((8,) * 8, tuple(((sums + (dear,))[number], many) for number, many in times.items()))
        self.assertLess(greatest_under((8,) * 8, one, tuple(left)), one[1])

    def test_brought_back(self):
        chance = random.Random(303)
        for _ in range(300):
            shares = [chance.randint(-WHOLE, 2 * WHOLE) for _ in range(chance.randint(1, 6))]
            found = brought_back(shares)
            self.assertTrue(all(share >= 0 for share in found))
            self.assertLess(abs(sum(found) - WHOLE), 8)
            levels = {share - new for share, new in zip(shares, found) if new > 0}
            self.assertEqual(len(levels), 1)
            self.assertTrue(all(share <= max(levels) for share, new in zip(shares, found) if new == 0))


class Uses(unittest.TestCase):
    """Questions that are asked in vain without multiples."""

    def test_the_cheapest_placing_of_twenty_tasks(self):
        for seed, dear in ((1, 100), (2, 10 ** 6)):
            chance = random.Random(seed)
            prices = tuple(tuple((hour, chance.randint(1, dear)) for hour in range(20)) for _ in range(20))
            tasks = tuple(task(1, None, (), (0,), None, pairs) for pairs in prices)
            question = (book((10, 10), groups=(0,), tasks=tasks), None, ())
            word, plan, moves, price, paper = best(question)
            self.assertEqual((word, moves, price), ("plan", 0, cheapest(prices, (1,) * 20)[2]))
            self.assertEqual(tuple(spot[0] for spot in plan), least_cheapest(prices, (1,) * 20))
            self.assertIs(is_best_paper(question, row_of(question, plan), paper), True)

    def test_long_tasks_in_the_way_of_others(self):
        # thirty hours of work in the thirty hours of a person, some of it in two rooms and with others
        chance = random.Random(7)
        rooms, people = ((30, ()), (30, (1,))), (tuple(range(30)), tuple(range(0, 30, 2)))
        tasks = tuple(
            task(chance.choice((1, 1, 2)) if who == 0 else 1, None, (who,), (at % 5,), ())
            for at, who in ((at, int(at % 4 == 3)) for at in range(32)))
        self.assertEqual(sum(one[0] for one in tasks if one[2] == (0,)), 30)
        rules = (
            (("before", 0, 8, 3), None), (("most", tuple(range(10)), ((0, 1, 2), None, None), 2), None),
            (("unlike", 1, 2, "day"), 40), (("close", ("group", 0), (0, 5, 10, 15)), 50))
        question = (book((6,) * 5, rooms, people, (10,) * 5, tasks, rules), None, ())
        every, at = tuple(range(32)), ((0, 1, 2), None, None)
        # the person's hours are all taken, so the first three are
        less = ruled(question, ("load", every, at, 0, 2))
        found = best(less)
        self.assertEqual(found[0], "none")
        self.assertIs(is_refutation(less, (), found[1]), True)
        self.assertEqual(may(ruled(question, ("load", every, at, 0, 3)), 31, 0)[0], "none")


if __name__ == "__main__":
    unittest.main()
