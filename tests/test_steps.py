"""[6], [21], [22]: what follows from sums, clauses of broken sums, and cuts."""

import itertools
import random
import unittest

from besthours.errors import BadParameter, BadSum
from besthours.steps import added, capped, clause_steps, cut_steps, divided, raised
from besthours.sums import form_of, greatest_under, kept_by, need_sum
from samples import Case, NO_INTEGERS, NO_TUPLES, changed
from test_sums import GREAT, NONE, ONE, SETS, SIZES, WRONG_SETS, WRONG_SIZES, WRONG_SUMS

SMALL = (2, 3, 2)
ROWS = tuple(itertools.product(*(range(many) for many in SMALL)))
TWO = (((0, (0, 1)), (1, (0, 1))), 1)
NO_NUMBERS = NO_INTEGERS + (None, -1, -GREAT)


def sum_by_chance(chance, sizes=SMALL):
    most = chance.choice((1, 1, 2, 5, 10 ** 22))
    terms = tuple(
        (choice, tuple(chance.randint(0, most) for _ in range(many)))
        for choice, many in enumerate(sizes) if chance.random() < 0.7)
    return form_of(sizes, terms, chance.randint(0, 3 * most))


def clause_by_chance(chance, sizes=SMALL):
    terms = tuple(
        (choice, tuple(chance.randint(0, 1) for _ in range(many)))
        for choice, many in enumerate(sizes) if chance.random() < 0.8)
    return form_of(sizes, tuple(term for term in terms if 0 in term[1]), 1)


def sets_by_chance(chance, sizes=SMALL):
    return tuple(tuple(sorted(chance.sample(range(many), chance.randint(1, many)))) for many in sizes)


def walk(sizes, sums, steps, many):
    """The sums by number, each of the steps led by the functions one by one; `sums` are those of before."""
    found = dict(sums)
    for number, step in enumerate(steps, many):
        assert number not in found
        if step[0] == "add":
            found[number] = added(sizes, tuple((found[one], times) for one, times in step[1]))
        elif step[0] == "divide":
            found[number] = divided(sizes, found[step[1]], step[2])
        elif step[0] == "cap":
            found[number] = capped(sizes, found[step[1]])
        else:
            assert step[0] == "raise"
            found[number] = raised(sizes, found[step[1]], step[2])
    return found


class Following(Case):
    def follows(self, sums, new, sizes=SMALL, rows=ROWS):
        """What keeps the sums keeps what is new."""
        self.assertEqual(need_sum(sizes, new), new)
        self.unchangeable(new)
        for row in rows:
            if all(kept_by(sizes, one, row) for one in sums):
                self.assertTrue(kept_by(sizes, new, row), (sums, new, row))


class Added(Following):
    def test_by_hand(self):
        one = (((0, (0, 1)), (1, (0, 1)), (2, (0, 1))), 2)
        other = (((0, (1, 0)), (1, (1, 0)), (2, (1, 0))), 2)
        self.assertEqual(added((2, 2, 2), ((one, 1), (other, 1))), ((), 1))
        self.assertEqual(added((2, 2, 2), ((one, 2), (other, 1))), (((0, (0, 1)), (1, (0, 1)), (2, (0, 1))), 3))
        self.assertEqual(added((2, 2, 2), ((one, 1),)), one)
        self.assertEqual(added((2, 2, 2), ((one, 3),)), (((0, (0, 3)), (1, (0, 3)), (2, (0, 3))), 6))
        self.assertEqual(added((2, 2, 2), ((one, 1), (one, 1))), (((0, (0, 2)), (1, (0, 2)), (2, (0, 2))), 4))
        self.assertEqual(added(SIZES, ()), NONE)
        self.assertEqual(added((), ((((), 2), 3), (NONE, 5))), ((), 6))
        self.assertEqual(added((2, 2), (((((1, (0, 1)),), 1), 1), ((((0, (0, 1)),), 1), 1))), (TWO[0], 2))
        self.assertEqual(added((2, 2), ((TWO, GREAT),)), (((0, (0, GREAT)), (1, (0, GREAT))), GREAT))

    def test_all_rows(self):
        chance = random.Random(7)
        for _ in range(400):
            sums = [sum_by_chance(chance) for _ in range(chance.randint(0, 3))]
            self.follows(sums, added(SMALL, tuple((one, chance.choice((1, 1, 2, 10 ** 20))) for one in sums)))

    def test_wrong(self):
        wrong = NO_TUPLES + (None, (0,), ((ONE,),), ((ONE, 1, 1),), ([ONE, 1],), [(ONE, 1)], ((ONE, 0),))
        wrong += tuple(((ONE, 1), (None, times)) for times in NO_NUMBERS + (0,))
        for pairs in wrong:
            self.refused(BadParameter, {"value": pairs}, added, SIZES, pairs)
        for value in WRONG_SUMS:
            with self.assertRaises(BadSum) as caught:
                added(SIZES, ((ONE, 1), (value, 2), (None, 1)))
            self.assertIs(caught.exception.value, value)
        for sizes in WRONG_SIZES:
            self.refused(BadParameter, {"value": sizes}, added, sizes, None)


class Divided(Following):
    def test_by_hand(self):
        one = (((0, (0, 3)), (1, (0, 4, 5))), 7)
        self.assertEqual(divided(SIZES, one, 1), one)
        self.assertEqual(divided(SIZES, one, 2), (((0, (0, 2)), (1, (0, 2, 3))), 4))
        self.assertEqual(divided(SIZES, one, 3), (((0, (0, 1)), (1, (0, 2, 2))), 3))
        self.assertEqual(divided(SIZES, one, 7), (((0, (0, 1)), (1, (0, 1, 1))), 1))
        self.assertEqual(divided(SIZES, one, GREAT), (((0, (0, 1)), (1, (0, 1, 1))), 1))
        self.assertEqual(divided(SIZES, ((), 5), 2), ((), 3))
        self.assertEqual(divided(SIZES, NONE, 2), NONE)
        # great numbers are divided without a loss
        self.assertEqual(divided((2,), (((0, (0, 10 ** 40 + 1)),), 10 ** 40), 10), (
            ((0, (0, 10 ** 39 + 1)),), 10 ** 39))

    def test_all_rows(self):
        chance = random.Random(8)
        for _ in range(400):
            one = sum_by_chance(chance)
            self.follows([one], divided(SMALL, one, chance.choice((1, 2, 3, 7, 10 ** 21))))

    def test_wrong(self):
        for by in NO_NUMBERS + (0,):
            self.refused(BadParameter, {"value": by}, divided, SIZES, ONE, by)
        for value in WRONG_SUMS:
            self.refused(BadSum, {"value": value}, divided, SIZES, value, 0)
        for sizes in WRONG_SIZES:
            self.refused(BadParameter, {"value": sizes}, divided, sizes, None, 0)


class Capped(Following):
    def test_by_hand(self):
        self.assertEqual(capped(SIZES, (((0, (0, 9)), (1, (3, 0, 4))), 4)), (((0, (0, 4)), (1, (3, 0, 4))), 4))
        self.assertEqual(capped(SIZES, (((0, (0, 9)),), 1)), (((0, (0, 1)),), 1))
        self.assertEqual(capped(SIZES, ((), 6)), ((), 6))
        self.assertEqual(capped(SIZES, (((0, (0, GREAT)),), 10 ** 20)), (((0, (0, 10 ** 20)),), 10 ** 20))

    def test_all_rows(self):
        chance = random.Random(9)
        for _ in range(400):
            one = sum_by_chance(chance)
            if one == NONE:
                self.refused(BadParameter, {"value": one}, capped, SMALL, one)
            else:
                self.follows([one], capped(SMALL, one))
                # nothing is lost, either
                self.follows([capped(SMALL, one)], one)

    def test_wrong(self):
        for value in WRONG_SUMS:
            self.refused(BadSum, {"value": value}, capped, SIZES, value)
        for sizes in WRONG_SIZES:
            self.refused(BadParameter, {"value": sizes}, capped, sizes, None)


class Raised(Following):
    def test_by_hand(self):
        one = (((0, (0, 2)), (3, (0, 1, 2, 3))), 4)
        self.assertEqual(raised(SIZES, one, ()), one)
        self.assertEqual(raised(SIZES, one, one[0]), one)
        self.assertEqual(raised(SIZES, one, ((3, (2, 2, 2, 3)),)), (((0, (0, 2)), (3, (0, 0, 0, 1))), 2))
        self.assertEqual(raised(SIZES, one, ((0, (2, 2)), (3, (3, 3, 3, 3)))), NONE)
        self.assertEqual(raised(SIZES, one, ((0, (1, 2)), (3, (3, 3, 3, 3)))), NONE)
        self.assertEqual(raised(SIZES, one, ((0, (2, 2)), (3, (1, 1, 2, 3)))), (((3, (0, 0, 1, 2)),), 1))
        self.assertEqual(raised(SIZES, one, ((1, (0, 7, 0)),)), (one[0][:1] + ((1, (0, 7, 0)),) + one[0][1:], 4))
        self.assertEqual(raised(SIZES, one, ((1, (0, 0, 0)), (2, (0,)))), one)
        self.assertEqual(raised(SIZES, one, ((2, (3,)),)), (one[0], 1))
        self.assertEqual(raised(SIZES, NONE, ((0, (0, 1)),)), NONE)
        self.assertEqual(raised(SIZES, ((), 3), ((0, (0, GREAT)),)), (((0, (0, GREAT)),), 3))

    def test_all_rows(self):
        chance = random.Random(10)
        for _ in range(400):
            one = sum_by_chance(chance)
            own = dict(one[0])
            terms = tuple(
                (choice, tuple(weight + chance.choice((0, 1, 3)) for weight in own.get(choice, (0,) * many)))
                for choice, many in enumerate(SMALL) if chance.random() < 0.6)
            self.follows([one], raised(SMALL, one, terms))

    def test_wrong(self):
        one = (((0, (0, 2)), (3, (0, 1, 2, 3))), 4)
        right = ((0, (0, 2)), (3, (1, 1, 2, 3)))
        wrong = NO_TUPLES + (
            None, right[::-1], right[:1] * 2, [right[0]], ((0,),), ((0, (0, 2), 0),), ((0, [0, 2]),), ((0, (2,)),),
            ((0, (0, 2, 2)),), ((4, (0, 2)),), ((-1, (0, 2)),),
            # less than the sum's own
            ((0, (0, 1)),), ((0, (-1, 2)),), ((3, (0, 1, 2, 2)),), ((1, (0, -1, 0)),), ((2, (-1,)),), right + ((4, ()),),
        )
        wrong += tuple(changed(right, (0, 1, 1), value) for value in NO_INTEGERS + (None,))
        wrong += tuple(changed(right, (0, 0), value) for value in NO_INTEGERS + (None,))
        for terms in wrong:
            self.refused(BadParameter, {"value": terms}, raised, SIZES, one, terms)
        for value in WRONG_SUMS:
            self.refused(BadSum, {"value": value}, raised, SIZES, value, None)
        for sizes in WRONG_SIZES:
            self.refused(BadParameter, {"value": sizes}, raised, sizes, None, None)


class Wide(Following):
    def test_a_hundred_choices_of_two_hundred_values(self):
        sizes = (200,) * 100
        one = (tuple((choice, tuple(range(200))) for choice in range(100)), 15000)
        twice = added(sizes, ((one, 1), (one, 10 ** 20)))
        self.assertEqual(twice[1], 15000 * (10 ** 20 + 1))
        self.assertEqual(twice[0][99][1][199], 199 * (10 ** 20 + 1))
        self.assertEqual(divided(sizes, twice, 10 ** 20 + 1), one)
        self.assertEqual(capped(sizes, (one[0], 5))[0][7], (7, (0, 1, 2, 3, 4) + (5,) * 195))
        self.assertEqual(raised(sizes, one, one[0]), one)
        self.assertEqual(raised(sizes, one, ((99, (199,) * 200),)), (one[0][:99], 15000 - 199))
        found, steps = clause_steps(sizes, one, (tuple(range(100)),) * 100, 4, 9)
        self.assertEqual([step[0] for step in steps], ["raise", "divide"])
        self.assertEqual(found, (tuple((choice, (0,) * 100 + (1,) * 100) for choice in range(100)), 1))


class Clauses(Following):
    def test_each_way(self):
        three = (2, 2, 2)
        full = ((0, 1),) * 3
        for one, sets, wanted, words in (
            # a clause already
            (TWO, ((0,), (0,), (0,)), TWO, ()),
            (((), 1), full, ((), 1), ()), (((), 7), full, ((), 7), ()),
            # weights of the sets are taken off
            ((((0, (0, 1)), (1, (0, 1))), 2), ((0, 1), (0,), (0,)), (((1, (0, 1)),), 1), ("raise",)),
            ((((0, (0, 1)), (1, (0, 1))), 3), full, ((), 1), ("raise",)),
            ((((0, (0, 1)), (1, (0, 1))), 9), full, ((), 7), ("raise",)),
            # a weight above the bound
            ((((0, (0, 5)),), 1), ((0,), (0,), (0,)), (((0, (0, 1)),), 1), ("cap",)),
            ((((0, (0, 5)), (1, (0, 1))), 2), ((0,), (0, 1), (0,)), (((0, (0, 1)),), 1), ("raise", "cap")),
            # a bound above 1
            ((((0, (0, 2)), (1, (0, 1))), 2), ((0,), (0,), (0,)), (((0, (0, 1)), (1, (0, 1))), 1), ("divide",)),
            ((((0, (0, 9)), (1, (0, 1))), 2), ((0,), (0,), (0,)), (TWO[0], 1), ("cap", "divide")),
            ((((0, (0, 9)), (1, (0, 1)), (2, (0, 1))), 3), ((0,), (0, 1), (0,)), (((0, (0, 1)), (2, (0, 1))), 1),
             ("raise", "cap", "divide")),
            ((((0, (0, 2)), (1, (0, 1))), 3), ((0,), (0, 1), (0,)), (((0, (0, 1)),), 1), ("raise", "divide")),
        ):
            found, steps = clause_steps(three, one, sets, 3, 10)
            self.assertEqual((found, tuple(step[0] for step in steps)), (wanted, words))
            self.assertEqual([step[1] for step in steps], ([3] + list(range(10, 15)))[:len(steps)])
            self.unchangeable(steps)

    def test_steps_in_full(self):
        one = (((0, (0, 9)), (1, (2, 0, 1)), (2, (0, 5))), 8)
        self.assertEqual(clause_steps(SMALL, one, ((0,), (1, 2), (0, 1)), 0, 1), (
            (((0, (0, 1)), (1, (1, 0, 0))), 1),
            (("raise", 0, ((1, (2, 1, 1)), (2, (5, 5)))), ("cap", 1), ("divide", 2, 2)),
        ))
        self.assertEqual(clause_steps(SMALL, one, ((0,), (1,), (0,)), 7, 8), (
            (((0, (0, 1)), (1, (1, 0, 1)), (2, (0, 1))), 1), (("cap", 7), ("divide", 8, 8))))

    def test_all_rows(self):
        chance = random.Random(11)
        tried = 0
        for _ in range(3000):
            one, sets = sum_by_chance(chance), sets_by_chance(chance)
            at = chance.randint(0, 3)
            many = at + chance.randint(1, 3)
            if greatest_under(SMALL, one, sets) >= one[1]:
                # ahead of the numbers
                self.refused(BadParameter, {"value": sets}, clause_steps, SMALL, one, sets, -1, None)
                continue
            tried += 1
            found, steps = clause_steps(SMALL, one, sets, at, many)
            self.follows([one], found)
            self.assertLess(greatest_under(SMALL, found, sets), found[1])
            if found[0]:
                self.assertEqual(found[1], 1)
                self.assertTrue(all(set(weights) == {0, 1} for _, weights in found[0]))
            sums = walk(SMALL, {at: one}, steps, many)
            self.assertEqual(sums[many + len(steps) - 1 if steps else at], found)
            for number, step in enumerate(steps):
                self.assertEqual(step[1], many + number - 1 if number else at)
        self.assertGreater(tried, 300)

    def test_wrong(self):
        one, sets = (((0, (0, 2)), (1, (3, 0, 1)), (3, (0, 0, 5, 1))), 9), SETS
        self.assertEqual(clause_steps(SIZES, one, sets, 0, 1)[0], (((3, (0, 0, 1, 0)),), 1))
        for value in NO_NUMBERS:
            self.refused(BadParameter, {"value": value}, clause_steps, SIZES, one, sets, value, None)
        for value in NO_NUMBERS + (0, 4, 5):
            self.refused(BadParameter, {"value": value}, clause_steps, SIZES, one, sets, 5, value)
        for value in WRONG_SETS + (((0, 1), (0, 1, 2), (0,), (0, 1, 2, 3)),):
            self.refused(BadParameter, {"value": value}, clause_steps, SIZES, one, value, None, None)
        self.refused(BadParameter, {"value": sets}, clause_steps, SIZES, NONE, sets, 0, 1)
        for value in WRONG_SUMS:
            self.refused(BadSum, {"value": value}, clause_steps, SIZES, value, None, None, None)
        for value in WRONG_SIZES:
            self.refused(BadParameter, {"value": value}, clause_steps, value, None, None, None, None)


def clause(*terms):
    return (terms, 1)


class Cuts(Following):
    def test_each_way(self):
        sizes = (3, 2, 2)
        for one, other, wanted, steps in (
            # all values of the other one are the one's
            (clause((0, (1, 1, 0)), (1, (0, 1))), clause((0, (0, 1, 0)), (2, (0, 1))),
             clause((0, (0, 1, 0)), (1, (0, 1)), (2, (0, 1))), (("raise", 5, ((1, (0, 1)), (2, (0, 1)))),)),
            # the same values
            (clause((0, (0, 1, 1))), clause((0, (0, 1, 1))), clause((0, (0, 1, 1))), (("raise", 5, ()),)),
            (clause((0, (0, 1, 1)), (1, (0, 1))), clause((0, (0, 1, 1)), (1, (1, 0))), NONE,
             (("raise", 5, ((1, (1, 1)),)),)),
            # all values of the one are the other one's
            (clause((0, (0, 1, 0)), (1, (0, 1))), clause((0, (0, 1, 1)), (1, (0, 1)), (2, (1, 0))),
             clause((0, (0, 1, 0)), (1, (0, 1)), (2, (1, 0))), (("raise", 2, ((1, (0, 1)), (2, (1, 0)))),)),
            # neither, and each value is one's
            (clause((0, (1, 1, 0))), clause((0, (0, 1, 1))), clause((0, (0, 1, 0))), (("add", ((2, 1), (5, 1))),)),
            (clause((0, (1, 0, 0)), (1, (0, 1))), clause((0, (0, 1, 1)), (2, (0, 1))),
             clause((1, (0, 1)), (2, (0, 1))), (("add", ((2, 1), (5, 1))),)),
            (clause((0, (1, 0, 0)), (1, (0, 1))), clause((0, (0, 1, 1)), (1, (0, 1))),
             clause((1, (0, 1))), (("add", ((2, 1), (5, 1))), ("cap", 9))),
            (clause((0, (1, 0, 0)), (1, (0, 1))), clause((0, (0, 1, 1)), (1, (1, 0))),
             NONE, (("add", ((2, 1), (5, 1))),)),
            (clause((0, (1, 0, 0))), clause((0, (0, 1, 1))), ((), 1), (("add", ((2, 1), (5, 1))),)),
            # neither, and there is a value that both lack
            (clause((0, (1, 0, 0)), (1, (0, 1))), clause((0, (0, 1, 0)), (2, (0, 1))),
             clause((1, (0, 1)), (2, (0, 1))), (("raise", 2, ((0, (1, 0, 1)),)), ("add", ((5, 1), (9, 1))))),
            (clause((0, (1, 0, 0)), (1, (0, 1))), clause((0, (0, 1, 0)), (1, (0, 1))),
             clause((1, (0, 1))), (("raise", 2, ((0, (1, 0, 1)),)), ("add", ((5, 1), (9, 1))), ("cap", 10))),
        ):
            found = cut_steps(sizes, one, other, 0, 2, 5, 9)
            self.assertEqual(found, (wanted, steps))
            self.unchangeable(found)
        # the lesser number first
        one, other = clause((0, (1, 1, 0))), clause((0, (0, 1, 1)))
        self.assertEqual(cut_steps(sizes, one, other, 0, 8, 5, 9)[1], (("add", ((5, 1), (8, 1))),))

    def test_all_rows(self):
        chance = random.Random(12)
        tried = 0
        for _ in range(3000):
            one, other = clause_by_chance(chance, (3, 3, 2)), clause_by_chance(chance, (3, 3, 2))
            both = [choice for choice in dict(one[0]) if choice in dict(other[0])]
            if not both or NONE in (one, other):
                continue
            tried += 1
            choice = chance.choice(both)
            at, far = chance.sample(range(6), 2)
            many = max(at, far) + chance.randint(1, 3)
            found, steps = cut_steps((3, 3, 2), one, other, choice, at, far, many)
            rows = tuple(itertools.product(range(3), range(3), range(2)))
            self.follows([one, other], found, (3, 3, 2), rows)
            sums = walk((3, 3, 2), {at: one, far: other}, steps, many)
            self.assertEqual(sums[many + len(steps) - 1], found)
            self.assertEqual(found, self.cut_by_hand(one, other, choice, (3, 3, 2)))
        self.assertGreater(tried, 500)

    def cut_by_hand(self, one, other, choice, sizes):
        """Values of both at the choice, of one of both elsewhere; ((), 0) if these are all of some choice's."""
        has = [{at: {value for value, weight in enumerate(weights) if weight} for at, weights in sums[0]}
               for sums in (one, other)]
        terms = []
        for at, many in enumerate(sizes):
            first, second = (told.get(at, set()) for told in has)
            values = first & second if at == choice else first | second
            if len(values) == many:
                return NONE
            if values:
                terms.append((at, tuple(int(value in values) for value in range(many))))
        return (tuple(terms), 1)

    def test_wrong(self):
        one = clause((0, (0, 1)), (1, (0, 1, 1)))
        other = clause((1, (1, 0, 1)), (3, (1, 0, 0, 0)))
        right = (SIZES, one, other, 1, 0, 1, 2)
        self.assertEqual(cut_steps(*right)[0][1], 1)
        no_clauses = (NONE, ((), 2), (((0, (0, 1)),), 2), (((0, (0, 2)),), 1), (((0, (0, 2)),), 2))
        for value in no_clauses:
            self.refused(BadParameter, {"value": value}, cut_steps, SIZES, value, None, None, None, None, None)
            self.refused(BadParameter, {"value": value}, cut_steps, SIZES, one, value, None, None, None, None)
        for value in NO_INTEGERS + (None, -1, 0, 2, 3, 4, GREAT):
            self.refused(BadParameter, {"value": value}, cut_steps, SIZES, one, other, value, None, None, None)
        for value in NO_NUMBERS:
            self.refused(BadParameter, {"value": value}, cut_steps, SIZES, one, other, 1, value, None, None)
            self.refused(BadParameter, {"value": value}, cut_steps, SIZES, one, other, 1, 4, value, None)
        for value in NO_NUMBERS + (0, 3, 5, 6):
            self.refused(BadParameter, {"value": value}, cut_steps, SIZES, one, other, 1, 4, 6, value)
            self.refused(BadParameter, {"value": value}, cut_steps, SIZES, one, other, 1, 6, 4, value)
        for value in WRONG_SUMS:
            self.refused(BadSum, {"value": value}, cut_steps, SIZES, value, NONE, None, None, None, None)
            self.refused(BadSum, {"value": value}, cut_steps, SIZES, one, value, None, None, None, None)
        # one ahead of other, as a whole
        self.refused(BadParameter, {"value": NONE}, cut_steps, SIZES, NONE, None, 1, 0, 1, 2)
        for value in WRONG_SIZES:
            self.refused(BadParameter, {"value": value}, cut_steps, value, None, None, None, None, None, None)

    def test_empty_clause_names_nothing(self):
        self.refused(BadParameter, {"value": 0}, cut_steps, (2,), ((), 1), clause((0, (0, 1))), 0, 0, 1, 2)
        self.refused(BadParameter, {"value": 0}, cut_steps, (2,), clause((0, (0, 1))), ((), 1), 0, 0, 1, 2)


if __name__ == "__main__":
    unittest.main()
