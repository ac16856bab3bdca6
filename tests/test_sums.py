"""[5], [20], [22]: sums by themselves, their form, what they come to in rows and under sets."""

import itertools
import random
import unittest

from besthours.errors import BadParameter, BadSum
from besthours.sums import form_of, greatest_under, kept_by, need_sum, weight_of
from samples import Case, NO_INTEGERS, NO_TUPLES, Odd, changed

SIZES = (2, 3, 1, 4)
ONE = (((0, (0, 2)), (1, (3, 0, 1)), (3, (0, 0, 5, 1))), 4)
NONE = ((), 0)
GREAT = 10 ** 5000

WRONG_SIZES = NO_TUPLES + (
    None, (0,), (201,), (2, 0), (2, -1), (2, None), (True,), (2, "2"), (2.0,), [2, 3], (1,) * 101, (2, GREAT),
    ((2,),), (Odd(),),
)
# no sums over SIZES
WRONG_SUMS = NO_TUPLES + (
    None, (), ((),), ((), 0, 0), [(), 0], ([], 0), (None, 0), ((), None), ((), -1), ((), True), ((), False),
    ((), "1"), ((), 1.0), ((), 0.0), ((), Odd()), (Odd(), 0), ({}, 0),
    # a bound of 0 has no TERMS
    (((0, (0, 1)),), 0), (((0, (0, 1)),), -1), (((0, (0, 1)),), False),
    # choices
    (((4, (0, 1)),), 1), (((-1, (0, 1)),), 1), (((True, (0, 1, 0)),), 1), (((False, (0, 1)),), 1),
    (((None, (0, 1)),), 1), (((0.0, (0, 1)),), 1), ((("0", (0, 1)),), 1), (((GREAT, (0, 1)),), 1),
    (((1, (0, 1, 0)), (0, (0, 1))), 1), (((0, (0, 1)), (0, (0, 1))), 1),
    # terms
    ((0,), 1), (((0,),), 1), (((0, (0, 1), 0),), 1), (([0, (0, 1)],), 1), (((0, [0, 1]),), 1), ((None,), 1),
    ([(0, (0, 1))], 1), (((0, None),), 1), (((0, 1),), 1), ((Odd(),), 1),
    # weights
    (((0, (0,)),), 1), (((0, (0, 1, 0)),), 1), (((0, ()),), 1), (((2, (0,)),), 1), (((2, (1,)),), 1),
    (((0, (0, 0)),), 1), (((0, (1, 2)),), 1), (((0, (-1, 0)),), 1), (((0, (-1, 1)),), 1), (((0, (0, True)),), 1),
    (((0, (False, 1)),), 1), (((0, (0, None)),), 1), (((0, (0, "1")),), 1), (((0, (0, 1.0)),), 1),
    (((0, (0, Odd())),), 1),
)
# right sums over SIZES
SUMS = (
    NONE, ((), 1), ((), GREAT), (((0, (0, 1)),), 1), (((0, (1, 0)), (3, (0, 0, 0, 7))), 1), ONE,
    (((1, (0, GREAT, 1)),), GREAT), (((0, (0, 10 ** 20)), (3, (1, 0, 10 ** 30, 2))), 10 ** 25),
    # greater bounds than weights can come to
    (((0, (0, 1)),), 2),
)
ROWS = tuple(itertools.product(*(range(many) for many in SIZES)))
WRONG_ROWS = NO_TUPLES + (
    None, (), (0, 0, 0), (0, 0, 0, 0, 0), [0, 0, 0, 0], (2, 0, 0, 0), (0, 3, 0, 0), (0, 0, 1, 0), (0, 0, 0, 4),
    (-1, 0, 0, 0), (0, 0, 0, GREAT),
) + tuple(changed((0, 0, 0, 0), (at,), value) for at in range(4) for value in NO_INTEGERS + (None,))
SETS = ((0, 1), (0, 2), (0,), (3,))
WRONG_SETS = NO_TUPLES + (
    None, (), SETS[:3], SETS + ((0,),), list(SETS), ((), (0,), (0,), (0,)), ((0, 1), (0,), (0,), ()),
    ((1, 0), (0,), (0,), (0,)), ((0, 0), (0,), (0,), (0,)), ((2,), (0,), (0,), (0,)), ((-1,), (0,), (0,), (0,)),
    ((True,), (0,), (0,), (0,)), ((0,), (0,), (1,), (0,)), ((0,), (0,), (0,), (GREAT,)),
) + tuple(changed(SETS, (at,), value) for at in range(4) for value in NO_TUPLES + (None,))


def weight_by_hand(one, row):
    return sum(weights[row[choice]] for choice, weights in one[0])


class Sums(Case):
    def test_right(self):
        for one in SUMS:
            self.assertIs(need_sum(SIZES, one), one)
        self.assertEqual(need_sum((), ((), 3)), ((), 3))
        wide = tuple(range(200))
        self.assertEqual(need_sum((200,) * 100, (((99, wide),), 7)), (((99, wide),), 7))

    def test_wrong(self):
        for value in WRONG_SUMS:
            self.refused(BadSum, {"value": value}, need_sum, SIZES, value)
            for function, last in ((weight_of, WRONG_ROWS[0]), (kept_by, None), (greatest_under, None)):
                # ahead of what stands behind it
                self.refused(BadSum, {"value": value}, function, SIZES, value, last)

    def test_wrong_sizes(self):
        for sizes in WRONG_SIZES:
            self.refused(BadParameter, {"value": sizes}, need_sum, sizes, None)
            self.refused(BadParameter, {"value": sizes}, form_of, sizes, None, None)
            for function in (weight_of, kept_by, greatest_under):
                self.refused(BadParameter, {"value": sizes}, function, sizes, None, None)

    def test_greatest_sizes(self):
        for sizes in ((), (1,), (200,), (1, 200) * 50):
            self.assertEqual(need_sum(sizes, NONE), NONE)


class Forms(Case):
    def test_by_hand(self):
        for terms, bound, wanted in (
            ((), 0, NONE), ((), -5, NONE), ((), 5, ((), 5)),
            (((0, (3, 3)),), 3, NONE), (((0, (3, 3)),), 4, ((), 1)),
            (((0, (3, 4)),), 4, (((0, (0, 1)),), 1)), (((0, (3, 4)),), 3, NONE), (((0, (3, 4)),), -1, NONE),
            (((0, (-3, 4)),), 0, (((0, (0, 7)),), 3)), (((0, (-3, -3)),), -4, NONE), (((0, (-3, -3)),), -2, ((), 1)),
            (((2, (9,)),), 10, ((), 1)), (((2, (-9,)),), -8, ((), 1)),
            (((0, (0, 5)), (1, (2, 2, 2)), (3, (1, 2, 3, 4))), 5, (((0, (0, 5)), (3, (0, 1, 2, 3))), 2)),
            (((0, (0, 10 ** 40)),), 10 ** 20, (((0, (0, 10 ** 40)),), 10 ** 20)),
            (((0, (GREAT, GREAT + 1)),), GREAT + 2, (((0, (0, 1)),), 2)),
        ):
            self.assertEqual(form_of(SIZES, terms, bound), wanted)
            self.unchangeable(form_of(SIZES, terms, bound))

    def test_wrong_terms(self):
        right = ((0, (1, 2)), (3, (1, 2, 3, 4)))
        wrong = NO_TUPLES + (
            None, (0,), ((0,),), ((0, (1, 2), 0),), [(0, (1, 2))], ([0, (1, 2)],), ((0, [1, 2]),), ((0, None),),
            ((0, (1,)),), ((0, (1, 2, 3)),), ((0, ()),), ((4, (1, 2)),), ((-1, (1, 2)),), ((GREAT, (1, 2)),),
            right[::-1], right + right[1:], ((0, (1, 2)), (0, (1, 2))),
        )
        wrong += tuple(changed(right, (0, 0), value) for value in NO_INTEGERS + (None,))
        wrong += tuple(changed(right, (1, 1, 2), value) for value in NO_INTEGERS + (None,))
        wrong += tuple(changed(right, (1,), value) for value in NO_TUPLES + (None,))
        for terms in wrong:
            self.refused(BadParameter, {"value": terms}, form_of, SIZES, terms, None)

    def test_wrong_bound(self):
        for bound in NO_INTEGERS + (None,):
            self.refused(BadParameter, {"value": bound}, form_of, SIZES, (), bound)

    def test_all_rows(self):
        chance = random.Random(5)
        for _ in range(300):
            most = chance.choice((1, 3, 10 ** 21))
            named = [choice for choice in range(4) if chance.random() < 0.6]
            terms = tuple(
                (choice, tuple(chance.randint(-most, most) for _ in range(SIZES[choice]))) for choice in named)
            bound = chance.randint(-2 * most, 3 * most)
            one = form_of(SIZES, terms, bound)
            self.assertEqual(need_sum(SIZES, one), one)
            if one == NONE:
                # all rows keep what was told
                self.assertTrue(all(weight_by_hand((terms, 0), row) >= bound for row in ROWS))
                continue
            for row in ROWS:
                self.assertEqual(weight_of(SIZES, one, row) - one[1], weight_by_hand((terms, 0), row) - bound)
            self.assertEqual(form_of(SIZES, *one), one)

    def test_equal_exactly_if_the_same_at_all_rows(self):
        few = [(((0, weights), (1, more)), bound) for weights in ((0, 1), (1, 0), (0, 2)) for bound in (1, 2)
               for more in ((0, 1), (1, 0), (2, 0))]
        few += [(((0, weights),), bound) for weights in ((0, 1), (1, 0), (0, 2)) for bound in (1, 2)]
        few += [((), 1), ((), 2)]
        rows = tuple(itertools.product((0, 1), (0, 1)))
        for one, other in itertools.product(few, few):
            same = all(weight_of((2, 2), one, row) - one[1] == weight_of((2, 2), other, row) - other[1] for row in rows)
            self.assertEqual(same, one == other)


class Weights(Case):
    def test_by_hand(self):
        self.assertEqual(weight_of(SIZES, ONE, (1, 2, 0, 2)), 8)
        self.assertEqual(weight_of(SIZES, ONE, (0, 1, 0, 0)), 0)
        self.assertEqual(weight_of(SIZES, NONE, (0, 1, 0, 0)), 0)
        self.assertEqual(weight_of(SIZES, (((0, (0, GREAT)),), 1), (1, 0, 0, 0)), GREAT)
        self.assertIs(kept_by(SIZES, ONE, (1, 2, 0, 3)), True)
        self.assertIs(kept_by(SIZES, ONE, (1, 2, 0, 0)), False)
        self.assertIs(kept_by(SIZES, NONE, (0, 0, 0, 0)), True)
        self.assertIs(kept_by(SIZES, ((), 1), (0, 0, 0, 0)), False)
        self.assertIs(kept_by((), ((), 1), ()), False)

    def test_all_rows(self):
        for one in SUMS:
            for row in ROWS:
                self.assertEqual(weight_of(SIZES, one, row), weight_by_hand(one, row))
                self.assertIs(kept_by(SIZES, one, row), weight_by_hand(one, row) >= one[1])

    def test_wrong_rows(self):
        for row in WRONG_ROWS:
            self.refused(BadParameter, {"value": row}, weight_of, SIZES, ONE, row)
            self.refused(BadParameter, {"value": row}, kept_by, SIZES, ONE, row)


class Greatest(Case):
    def test_by_hand(self):
        self.assertEqual(greatest_under(SIZES, ONE, SETS), 2 + 3 + 1)
        self.assertEqual(greatest_under(SIZES, ONE, ((0,), (1, 2), (0,), (0, 1))), 1)
        self.assertEqual(greatest_under(SIZES, NONE, SETS), 0)
        self.assertEqual(greatest_under((), ((), 4), ()), 0)

    def test_all_rows(self):
        chance = random.Random(6)
        for one in SUMS:
            for _ in range(20):
                sets = tuple(tuple(sorted(chance.sample(range(many), chance.randint(1, many)))) for many in SIZES)
                self.assertEqual(
                    greatest_under(SIZES, one, sets),
                    max(weight_by_hand(one, row) for row in itertools.product(*sets)))

    def test_wrong_sets(self):
        for sets in WRONG_SETS:
            self.refused(BadParameter, {"value": sets}, greatest_under, SIZES, ONE, sets)

    def test_many(self):
        sizes = (200,) * 100
        one = (tuple((choice, tuple(range(200))) for choice in range(100)), 1)
        self.assertEqual(greatest_under(sizes, one, ((0, 150),) * 100), 15000)
        self.assertEqual(weight_of(sizes, one, (199,) * 100), 19900)


if __name__ == "__main__":
    unittest.main()
