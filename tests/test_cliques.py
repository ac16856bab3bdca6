"""What cliques say: of values no two of which can be together at most one can be."""

import itertools
import random
import unittest

from besthours.best import best
from besthours.checking import is_clash_paper, is_refutation
from besthours.cliques import clique_sums
from besthours.clashes import least_clash
from besthours.demands import demands
from besthours.engine import engine_of
from besthours.store import Store
from placements import led
from samples import book, task


def unlike(many, sort="start"):
    return tuple((("unlike", one, other, sort), None) for one, other in itertools.combinations(range(many), 2))


def told_of(sizes, sums):
    """What cliques say of some sums: (SUM, LED, TAGS), LED what their steps lead to."""
    store = Store(sizes)
    for number, one in enumerate(sums):
        store.add_sum(one, ("demand", number), 1 << number)
    found = clique_sums(store)
    lines = led(sizes, sums, store.steps)
    return [(one, lines[step], tags) for one, step, tags in found]


class Cliques(unittest.TestCase):
    def test_three(self):
        pairs = [
            (((one, (0, 1)), (other, (0, 1))), 1) for one, other in itertools.combinations(range(3), 2)]
        self.assertEqual(told_of((2, 2, 2), pairs), [((tuple((at, (0, 1)) for at in range(3)), 2),) * 2 + (7,)])
        # without one of them, or with another value in one, there is none
        self.assertEqual(told_of((2, 2, 2), pairs[:2]), [])
        self.assertEqual(told_of((2, 2, 2), pairs[:2] + [(((1, (1, 0)), (2, (0, 1))), 1)]), [])
        # sums that say more than that two can't be together are left alone
        self.assertEqual(told_of((2, 2, 2), pairs[:2] + [(((1, (0, 2)), (2, (0, 1))), 1)]), [])
        self.assertEqual(told_of((2, 2, 2), pairs[:2] + [(((1, (0, 1)), (2, (0, 1))), 2)]), [])
        self.assertEqual(told_of((), []), [])

    def test_drawn(self):
        chance = random.Random(311)
        found = 0
        for _ in range(200):
            many = chance.randint(3, 6)
            sizes = (3,) * many
            pairs = []
            for one, other in itertools.combinations(range(many), 2):
                for value in range(2):
                    if chance.random() < 0.75:
                        weights = tuple(int(at != value) for at in range(3))
                        pairs.append((((one, weights), (other, weights)), 1))
            lots = told_of(sizes, pairs)
            for one, line, tags in lots:
                self.assertEqual(one, line)
                terms, bound = one
                self.assertEqual(bound, len(terms) - 1)
                self.assertTrue(all(max(weights) == 1 for _, weights in terms))
                own = [number for number in range(len(pairs)) if tags >> number & 1]
                choices = [choice for choice, _ in terms]
                # just the pairs of the lot, each of them
                self.assertEqual(
                    sorted((first[0], second[0]) for (first, second), _ in (pairs[number] for number in own)),
                    list(itertools.combinations(choices, 2)))
            found += len(lots)
        self.assertGreater(found, 300)

    def test_nine_tasks_in_eight_hours(self):
        question = (book((8,), tasks=(task(),) * 9, rules=unlike(9)), None, ())
        word, steps = best(question)
        self.assertEqual(word, "none")
        self.assertIs(is_refutation(question, (), steps), True)
        clash = least_clash(question)
        self.assertEqual(clash[0], tuple(("rule", number) for number in range(36)))
        self.assertIs(is_clash_paper(question, clash), True)
        found = best((book((9,), tasks=(task(),) * 9, rules=unlike(9)), None, ()))
        self.assertEqual(found[1], tuple((hour, None, None) for hour in range(9)))

    def test_they_are_taken_up_once(self):
        question = (book((5,), tasks=(task(),) * 6, rules=unlike(6)), None, ())
        engine = engine_of((5,) * 6, [(number, one, 0) for number, (_, one) in enumerate(demands(question))])
        engine.begin([31] * 6, 0)
        many = len(engine.store.sums)
        engine.take_cliques()
        self.assertEqual(len(engine.store.sums), many + 5)
        engine.take_cliques()
        self.assertEqual(len(engine.store.sums), many + 5)


if __name__ == "__main__":
    unittest.main()
