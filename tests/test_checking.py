"""[6], [7], [23], [24]: the checker of proofs, of papers of best plans and of clashes."""

import itertools
import random
import unittest

from besthours.checking import checked, is_best_paper, is_clash_paper, is_refutation, sums_of
from besthours.choices import row_moves, row_price, sizes
from besthours.demands import demands, givens, keeps_all, parts
from besthours.errors import BadBook, BadParameter, BadProof, BadQuestion
from besthours.steps import added, capped, divided, raised
from besthours.sums import kept_by, weight_of
from samples import Case, EMPTY, NO_INTEGERS, NO_TUPLES, Odd, book, changed, task

GREAT = 10 ** 5000
FREE = task()
PAIR = (((2,), (), ((0, 1),), (), ((1, None, (0,), (), None, ()), (1, None, (0,), (), None, ((0, 5),))), ()), None, ())
PAIR_PAPER = ((), (), (("demand", 0),), ((1, 0),))

# a group of one task for each hour, and one task more
THREE = (book((2,), groups=(0,), tasks=(task(1, None, (), (0,)),) * 3), None, ())
THREE_STEPS = (("demand", 0), ("demand", 1), ("add", ((0, 1), (1, 1))))

class Word(str):
    """A string that is no key."""

    __hash__ = None


# values of all kinds, among them things that are nearly proofs and papers
ANYTHING = NO_TUPLES + (
    None, (), ((),), (None,), ((), ()), ((), (), ()), ((), (), (), ()), (0, 0, 0), (0, 0, 0, 0), (None,) * 3, (None,) * 4,
    ((), (), (), (), ()), ([], [], [], []), (Odd(),), (Odd(),) * 3, (Odd(),) * 4, ("demand", 0), (("demand", 0),),
    (("demand", 0, 0),), (("demand",),), ((("demand", 0),),), "demand", ((b"demand", 0),), ((Odd(), 0),),
    (Word("demand"), 0), ((Word("demands"), 0),), (((Word("always"), "group", 9),), (), ()),
    ((), (("demand", 0),), ()), ((("always", "group", 0),), (), ((),)), ((("always", "group", 0),), (), ()),
)


def all_rows(question):
    return itertools.product(*(range(many) for many in sizes(question)))


def part_sums(question, given):
    return tuple(one for _, one in demands(question)), givens(question, given)


class Steps(Case):
    """Steps of all kinds over a question with eight rows."""

    QUESTION = (
        book((2,), groups=(0,), tasks=(task(1, None, (), (0,), None, ((0, 5),)), task(1, None, (), (0,))),
             rules=((("least", (0,), ((1,), None, None), 1), 3),)),
        ((1, None, None), (1, None, None)), (),
    )
    GIVEN = (("moves", 0), ("price", 2))
    STEPS = (
        ("demand", 0),
        ("given", 0),
        ("add", ((0, 2), (1, 3))),
        ("given", 1),
        ("divide", 3, 4),
        ("cap", 3),
        ("raise", 2, ((0, (5, 5)), (2, (0, 1)))),
        ("add", ()),
        ("add", ((0, 1), (0, 1), (6, 10 ** 30))),
        ("demand", 2),
    )

    def test_sums(self):
        demand, given = part_sums(self.QUESTION, self.GIVEN)
        # rows: the task 0 at hours, the task 1, the rule kept or broken
        self.assertEqual(demand, (
            (((0, (0, 1)), (1, (0, 1))), 1), (((0, (1, 0)), (1, (1, 0))), 1), (((0, (0, 1)), (2, (0, 1))), 1)))
        self.assertEqual(given, ((((0, (0, 1)), (1, (0, 1))), 2), (((0, (0, 5)), (2, (3, 0))), 6)))
        three = (2, 2, 2)
        found = sums_of(self.QUESTION, self.GIVEN, self.STEPS)
        both = added(three, ((demand[0], 2), (given[0], 3)))
        wide = raised(three, both, ((0, (5, 5)), (2, (0, 1))))
        self.assertEqual(wide, (((1, (0, 5)), (2, (0, 1))), 3))
        self.assertEqual(found, (
            demand[0], given[0], both, given[1], divided(three, given[1], 4), capped(three, given[1]), wide, ((), 0),
            added(three, ((demand[0], 2), (wide, 10 ** 30))), demand[2],
        ))
        self.unchangeable(found)
        self.assertIs(checked(self.QUESTION, self.GIVEN, self.STEPS), None)
        for many in range(len(self.STEPS)):
            self.assertEqual(sums_of(self.QUESTION, self.GIVEN, self.STEPS[:many]), found[:many])
            self.assertIs(checked(self.QUESTION, self.GIVEN, self.STEPS[:many]), None)

    def test_what_keeps_all_keeps_each_sum(self):
        chance = random.Random(13)
        demand, given = part_sums(self.QUESTION, self.GIVEN)
        for _ in range(200):
            steps = self.steps_by_chance(chance)
            wrong = checked(self.QUESTION, self.GIVEN, steps)
            found = sums_of(self.QUESTION, self.GIVEN, steps[:wrong])
            for row in all_rows(self.QUESTION):
                if all(kept_by((2, 2, 2), one, row) for one in demand + given[:1]):
                    self.assertTrue(row_moves(self.QUESTION, row) > 0 or all(
                        kept_by((2, 2, 2), one, row) for one in found) or row_price(self.QUESTION, row) > 2)

    def steps_by_chance(self, chance):
        steps = []
        for at in range(chance.randint(1, 12)):
            kind = chance.choice(("demand", "given", "add", "divide", "cap", "raise")) if at > 1 else "demand"
            one = chance.randint(0, max(0, at - 1))
            steps.append({
                "demand": ("demand", chance.randint(0, 2)), "given": ("given", chance.randint(0, 1)),
                "add": ("add", tuple((chance.randint(0, max(0, at - 1)), chance.randint(1, 3)) for _ in range(2))),
                "divide": ("divide", one, chance.randint(1, 3)), "cap": ("cap", one),
                "raise": ("raise", one, ((chance.randint(0, 2), (chance.randint(2, 9),) * 2),)),
            }[kind])
        return tuple(steps)

    def wrong(self, at, steps, given=GIVEN):
        self.refused(BadProof, {"place": (at,)}, sums_of, self.QUESTION, given, steps)
        self.assertEqual(checked(self.QUESTION, given, steps), at)
        self.assertIs(is_refutation(self.QUESTION, given, steps), False)

    def test_each_step_wrong(self):
        for kind in ("demand", "given"):
            many = {"demand": 3, "given": 2}[kind]
            for value in NO_INTEGERS + (None, -1, many, GREAT, -GREAT):
                self.wrong(2, self.STEPS[:2] + ((kind, value),) + self.STEPS[3:])
        for at, step in enumerate(self.STEPS):
            if step[0] in ("divide", "cap", "raise"):
                # no number, this step itself, a later one
                for value in NO_INTEGERS + (None, -1, at, at + 1, len(self.STEPS), GREAT, -GREAT):
                    self.wrong(at, changed(self.STEPS, (at, 1), value))
        for at in (2, 8):
            for value in NO_INTEGERS + (None, -1, at, at + 1, GREAT, -GREAT):
                self.wrong(at, changed(self.STEPS, (at, 1, 1, 0), value))
            for value in NO_INTEGERS + (None, 0, -1, -GREAT):
                self.wrong(at, changed(self.STEPS, (at, 1, 0, 1), value))
            for value in NO_TUPLES + (None, (0, 1), ((0,),), ((0, 1, 1),), ([0, 1],), [(0, 1)], (0,), (None,)):
                self.wrong(at, changed(self.STEPS, (at, 1), value))
        for value in NO_INTEGERS + (None, 0, -1, -GREAT):
            self.wrong(4, changed(self.STEPS, (4, 2), value))

    def test_no_steps(self):
        for step in NO_TUPLES + (
            None, (), ("demand",), ("demand", 0, 0), ["demand", 0], (b"demand", 0), ("Demand", 0), (None, 0), (0, 0),
            (Odd(), 0), ("add",), ("add", (), ()), ("divide", 0), ("divide", 0, 1, 1), ("cap", 0, 0), ("cap",),
            ("raise", 0), ("raise", 0, (), ()), ("", 0), ("moves", 0), (("demand", 0),), ([], 0), ({}, 0),
        ):
            for at in (0, 3, len(self.STEPS)):
                self.wrong(at, self.STEPS[:at] + (step,) + self.STEPS[at:])

    def test_cap_of_nothing(self):
        self.wrong(8, self.STEPS[:8] + (("cap", 7),))
        self.wrong(1, (("add", ()), ("cap", 0)), ())

    def test_raise_to_less(self):
        right = ((0, (5, 5)), (2, (0, 1)))
        for terms in NO_TUPLES + (
            None, right[::-1], right[:1] * 2, list(right), (0,), ((0,),), ((0, (5, 5), 0),), ((0, [5, 5]),), ((0, 5),),
            ((0, (5,)),), ((0, (5, 5, 5)),), ((3, (0, 0)),), ((-1, (0, 0)),), ((0, (5, 4)),), ((0, (-1, 5)),),
            ((2, (-1, 0)),), ((GREAT, (0, 0)),),
        ) + tuple(changed(right, (0, 1, 0), value) for value in NO_INTEGERS + (None,)) + tuple(
            changed(right, (0, 0), value) for value in NO_INTEGERS + (None,)
        ):
            self.wrong(6, changed(self.STEPS, (6, 2), terms))

    def test_first_wrong_one(self):
        self.wrong(3, self.STEPS[:3] + (("cap", 3), ("cap", 9), None))

    def test_given_sums_that_are_not_given(self):
        self.wrong(1, self.STEPS, ())
        self.wrong(3, self.STEPS, (("price", 9),))

    def test_no_tuple_of_steps(self):
        for steps in NO_TUPLES + (None,):
            self.refused(BadProof, {"place": ()}, sums_of, self.QUESTION, (), steps)
            self.refused(BadProof, {"place": ()}, checked, self.QUESTION, (), steps)
        self.assertEqual(sums_of(self.QUESTION, (), ()), ())
        self.assertIs(checked(self.QUESTION, (), ()), None)

    def test_once_and_by_one(self):
        steps = (("demand", 0), ("add", ((0, 1),)), ("divide", 1, 1), ("raise", 2, ()), ("cap", 3))
        self.assertEqual(len(set(sums_of(self.QUESTION, (), steps))), 1)

    def test_great_numbers(self):
        steps = (("demand", 0), ("add", ((0, GREAT),)), ("divide", 1, GREAT), ("raise", 2, ((0, (0, GREAT)),)))
        self.assertEqual(sums_of(self.QUESTION, (), steps)[2:], (
            (((0, (0, 1)), (1, (0, 1))), 1), (((0, (0, GREAT)), (1, (0, 1))), 1)))


class Refutations(Case):
    def test_right(self):
        self.assertEqual(sums_of(THREE, (), THREE_STEPS)[-1], ((), 1))
        self.assertIs(is_refutation(THREE, (), THREE_STEPS), True)
        self.assertIs(is_refutation(THREE, (("moves", 5),), THREE_STEPS), True)
        # any given that none can keep
        self.assertIs(is_refutation(PAIR, (("moves", -1),), (("given", 0),)), True)
        dear = (("given", 1), ("raise", 0, ((1, (5, 5)),)))
        self.assertIs(is_refutation(PAIR, (("price", 3), ("price", -1)), dear), True)
        self.assertIs(is_refutation(PAIR, (("price", 3), ("price", 0)), dear), False)
        nowhere = (book(tasks=(task(1, ()),)), None, ())
        self.assertIs(is_refutation(nowhere, (), (("demand", 0),)), True)
        self.assertIs(is_refutation(nowhere, (), (("demand", 0), ("add", ((0, 3),)))), True)

    def test_not_the_last_one(self):
        self.assertIs(is_refutation(THREE, (), THREE_STEPS + (("demand", 0),)), False)
        self.assertIs(is_refutation(THREE, (), THREE_STEPS + (("add", ()),)), False)
        self.assertIs(is_refutation(THREE, (), THREE_STEPS + (("cap", 2),)), True)
        self.assertIs(is_refutation(THREE, (), THREE_STEPS[:2]), False)
        self.assertIs(is_refutation(THREE, (), ()), False)
        self.assertIs(is_refutation(THREE, (), (("add", ()),)), False)
        self.assertIs(is_refutation(PAIR, (("moves", 0),), (("given", 0),)), False)

    def test_bent(self):
        for at, value in (
            ((0, 1), 1), ((1, 1), 0), ((1, 1), 2), ((1, 1), True), ((0, 1), False), ((2, 1, 0, 1), 2),
            ((2, 1, 1, 0), 2), ((2, 1), ((0, 1),)), ((2, 1, 0, 1), True), ((2, 0), "cap"), ((2,), None),
        ):
            self.assertIs(is_refutation(THREE, (), changed(THREE_STEPS, at, value)), False)
        self.assertIs(is_refutation(THREE, (), list(THREE_STEPS)), False)

    def test_anything(self):
        for value in ANYTHING:
            for question in (THREE, PAIR, (EMPTY, None, ())):
                self.assertIs(is_refutation(question, (), value), False)
                self.assertIs(is_refutation(question, (("moves", 0),), (value,)), False)


class BestPapers(Case):
    # the task 0 must stand where the old plan has the task 1, and this one must then move, too, at the price 9
    QUESTION = (
        book((3,), groups=(0,), tasks=(
            task(1, (0, 1), (), (0,)), task(1, (1, 2), (), (0,), None, ((2, 9),)), task(1, None, (), (0,))),
             rules=((("least", (1,), ((2,), None, None), 1), 2), (("least", (0,), ((1,), None, None), 1), None))),
        ((0, None, None), (1, None, None), (0, None, None)), (),
    )

    def best_rows(self, question):
        """The least row by moves, price and itself, all rows tried."""
        return min(
            (row_moves(question, row), row_price(question, row), row)
            for row in all_rows(question) if keeps_all(question, row))

    def test_example(self):
        self.assertIs(is_best_paper(PAIR, (0, 1), PAIR_PAPER), True)
        self.assertIs(is_best_paper(PAIR, (1, 0), PAIR_PAPER), False)
        self.assertEqual(self.best_rows(PAIR), (0, 0, (0, 1)))

    def test_no_row(self):
        for row in NO_TUPLES + (None, (), (0,), (0, 1, 0), [0, 1], (0, 2), (-1, 0), (True, 0), (0, None), (0, GREAT)):
            self.refused(BadParameter, {"value": row}, is_best_paper, PAIR, row, PAIR_PAPER)

    def test_bars_bent(self):
        for at, value in (
            ((0,), (("demand", 0),)), ((1,), (("demand", 0),)), ((0,), None), ((1,), 0), ((0,), []), ((1,), "x"),
            ((2,), ()), ((2,), (("demand", 1),)), ((2,), (("demand", 2),)), ((2,), None), ((2,), [("demand", 0)]),
            ((2,), (("demand", 0), None)), ((2,), (("demand", 0), ("cap", 1))), ((2, 0, 1), False),
            ((3,), ()), ((3,), ((0, 0),)), ((3,), ((0, 0), (1, 0))), ((3,), ((1, 0), (1, 0))), ((3,), ((1, 1),)),
            ((3,), ((1, -1),)), ((3,), ((True, 0),)), ((3,), ((1, False),)), ((3,), ((1, 0, 0),)), ((3,), ([1, 0],)),
            ((3,), [(1, 0)]), ((3,), None), ((3,), (1, 0)), ((3,), ((1, None),)), ((3,), ((None, 0),)),
            ((3,), ((1, GREAT),)), ((3,), ((Odd(), 0),)), ((3,), ((1, Odd()),)), ((3,), (Odd(),)), ((3,), Odd()),
            ((2,), Odd()), ((0,), Odd()), ((1,), Odd()),
        ):
            self.assertIs(is_best_paper(PAIR, (0, 1), changed(PAIR_PAPER, at, value)), False)
        for at in range(4):
            for value in NO_TUPLES:
                self.assertIs(is_best_paper(PAIR, (0, 1), changed(PAIR_PAPER, (at,), value)), False)
        # steps that aren't needed are let
        self.assertIs(is_best_paper(PAIR, (0, 1), changed(
            PAIR_PAPER, (2,), (("demand", 0), ("demand", 1), ("add", ())))), True)
        self.assertIs(is_best_paper(PAIR, (0, 1), ((), (), (("given", 1), ("demand", 0)), ((1, 1),))), True)

    def test_anything(self):
        for value in ANYTHING:
            self.assertIs(is_best_paper(PAIR, (0, 1), value), False)
            self.assertIs(is_best_paper(PAIR, (0, 0), value), False)
            self.assertIs(is_best_paper(self.QUESTION, (1, 1, 0, 0), value), False)
        # with nothing at all there is nothing to show
        self.assertIs(is_best_paper((EMPTY, None, ()), (), ((), (), (), ())), True)
        self.assertIs(is_best_paper((EMPTY, None, ()), (), ((), (), ())), False)
        self.assertIs(is_best_paper((EMPTY, None, ()), (), ((), (), (), (), ())), False)

    def paper(self):
        """The paper of the row (1, 1, 0, 0), led by hand."""
        told = [part for part, _ in demands(self.QUESTION)]
        self.assertEqual(told, [("always", "group", 0)] * 3 + [("rule", 0), ("rule", 1)])
        many = range(len(told))
        sums = {at: demands(self.QUESTION)[at][1] for at in many}
        # hours 0, 1, 2; the rule with a price; the task 0 at the hour 1
        self.assertEqual(sums[0], (((0, (0, 1)), (2, (0, 1, 1))), 1))
        self.assertEqual(sums[1], (((0, (1, 0)), (1, (0, 1)), (2, (1, 0, 1))), 2))
        self.assertEqual(sums[2], (((1, (1, 0)), (2, (1, 1, 0))), 1))
        self.assertEqual(sums[3], (((1, (0, 1)), (3, (0, 1))), 1))
        self.assertEqual(sums[4], (((0, (0, 1)),), 1))
        # the task 1 is at the hour 2, as the task 0 is at the hour 1
        moved = (("demand", 4), ("demand", 1), ("add", ((1, 1), (2, 1))), ("raise", 3, ((2, (1, 1, 1)),)))
        fewer = (("given", 0),) + moved + (("add", ((0, 1), (1, 1), (4, 1))), ("raise", 5, ((2, (1, 1, 1)),)))
        cheaper = (("given", 1),) + moved + (("add", ((0, 1), (4, 9))), ("raise", 5, ((3, (2, 2)),)))
        barred = (("given", 0),) + moved
        return (fewer, cheaper, barred, ((0, 1), (1, 4)))

    def test_with_moves_and_a_price(self):
        self.assertEqual(self.best_rows(self.QUESTION), (2, 9, (1, 1, 0, 0)))
        row, paper = (1, 1, 0, 0), self.paper()
        self.assertEqual(sums_of(self.QUESTION, (("moves", 1),), paper[0])[3:], (
            (((1, (0, 1)), (2, (1, 0, 1))), 2), (((1, (0, 1)),), 1), (((2, (1, 0, 0)),), 2), ((), 1)))
        self.assertEqual(sums_of(self.QUESTION, (("moves", 2), ("price", 8)), paper[1])[4:], (
            (((1, (0, 1)),), 1), (((3, (2, 0)),), 3), ((), 1)))
        self.assertIs(is_refutation(self.QUESTION, (("moves", 1),), paper[0]), True)
        self.assertIs(is_refutation(self.QUESTION, (("moves", 2),), paper[0]), False)
        self.assertIs(is_refutation(self.QUESTION, (("moves", 2), ("price", 8)), paper[1]), True)
        self.assertIs(is_refutation(self.QUESTION, (("moves", 2), ("price", 9)), paper[1]), False)
        for other in all_rows(self.QUESTION):
            self.assertEqual(is_best_paper(self.QUESTION, other, paper), other == row)
        # other givens are asked: the papers of fewer and cheaper are no papers of each other
        self.assertIs(is_best_paper(self.QUESTION, row, (paper[1],) + paper[1:]), False)
        self.assertIs(is_best_paper(self.QUESTION, row, (paper[0], paper[0]) + paper[2:]), False)
        self.assertIs(is_best_paper(self.QUESTION, row, ((),) + paper[1:]), False)
        self.assertIs(is_best_paper(self.QUESTION, row, (paper[0], ()) + paper[2:]), False)

    def test_fewer_by_two_is_not_enough(self):
        # the task 0 must leave its spot, so there is one move at least; the row (1, 0) has two
        rules = ((("least", (0,), ((1,), None, None), 1), None),)
        question = (book((3,), tasks=(FREE, FREE), rules=rules), ((0, None, None), (1, None, None)), ())
        some = (("given", 0), ("demand", 0), ("add", ((0, 1), (1, 1))), ("raise", 2, ((0, (1, 1, 1)), (1, (1, 1, 1)))))
        self.assertIs(is_refutation(question, (("moves", 0),), some), True)
        self.assertIs(is_refutation(question, (("moves", 1),), some), False)
        self.assertIs(is_best_paper(question, (1, 0), (some, (), (("demand", 0),), ((0, 0),))), False)
        barred = (("given", 0), ("demand", 0), ("add", ((0, 1), (1, 1))), ("raise", 2, ((0, (1, 1, 1)),)))
        self.assertIs(is_best_paper(question, (1, 1), (some, (), barred, ((0, 1), (1, 3)))), True)

    def test_cheaper_by_two_is_not_enough(self):
        question = (book((2,), tasks=(task(prices=((0, 3), (1, 2))),)), None, ())
        some = (("given", 1), ("raise", 0, ((0, (1, 1)),)))
        self.assertIs(is_refutation(question, (("moves", 0), ("price", 1)), some), True)
        self.assertIs(is_refutation(question, (("moves", 0), ("price", 2)), some), False)
        self.assertIs(is_best_paper(question, (0,), ((), some, (), ())), False)
        self.assertIs(is_best_paper(question, (1,), ((), some, (("given", 1),), ((0, 0),))), True)

    def test_bent_in_each_part(self):
        row, paper = (1, 1, 0, 0), self.paper()
        for part in range(3):
            for at, step in enumerate(paper[part]):
                for value in (None, ("demand", 99), ("given", 2), ("cap", at), (step[0],), list(step)):
                    self.assertIs(is_best_paper(self.QUESTION, row, changed(paper, (part, at), value)), False)
            if part < 2:
                # without its last step nothing is refuted
                self.assertIs(is_best_paper(self.QUESTION, row, changed(paper, (part,), paper[part][:-1])), False)
        for bars in ((), ((0, 1),), ((1, 4),), ((1, 4), (0, 1)), ((0, 1), (1, 1)), ((0, 2), (1, 4)), ((0, 1), (1, 5)),
                     ((0, 1), (1, 4), (2, 4)), ((0, 1), (2, 4)), ((0, 1), (1, 3)), ((0, 0), (1, 4))):
            self.assertIs(is_best_paper(self.QUESTION, row, changed(paper, (3,), bars)), False)

    def test_a_bar_names_no_choice_behind(self):
        # "at most one at the hour 1" names the task 2, too; at the row's own value there it would be broken
        row, paper = (1, 1, 0, 0), self.paper()
        bent = paper[:2] + (paper[2] + (("add", ((3, 1), (1, 1))),), ((0, 1), (1, 5)))
        self.assertIs(is_best_paper(self.QUESTION, row, bent), False)
        self.assertIs(is_best_paper(self.QUESTION, row, changed(bent, (3,), paper[3])), True)

    def test_a_row_that_breaks_a_demand(self):
        question = (book((2,), groups=(0,), tasks=(task(1, None, (), (0,)),) * 2), None, ())
        for row in all_rows(question):
            for paper in (((), (), (), ()), ((), (), (("demand", 0),), ((1, 0),)), ((), (), (("demand", 0),), ((0, 0),))):
                right = row == (0, 1) and paper[3] == ((1, 0),)
                self.assertIs(is_best_paper(question, row, paper), right)

    def test_bars_are_right_only_where_they_break(self):
        # a bar is broken by the row with a lesser value at the task, and names nothing behind it
        question = (book((2,), groups=(0,), tasks=(task(1, None, (), (0,)),) * 2), None, ())
        seen = set()
        for more in itertools.product((0, 1, 3), repeat=4):
            terms = ((0, (more[0], 1 + more[1])), (1, (more[2], 1 + more[3])))
            steps = (("demand", 0), ("raise", 0, terms))
            one = sums_of(question, (), steps)[1]
            bar = weight_of((2, 2), one, (0, 0)) < one[1]
            self.assertIs(is_best_paper(question, (0, 1), ((), (), steps, ((1, 1),))), bar)
            seen.add(bar)
        self.assertEqual(seen, {True, False})

    def test_choices_behind_the_tasks_have_no_bars(self):
        rules = ((("least", (), (None, None, None), 1), 4),)
        question = (book((1,), tasks=(FREE,), rules=rules), None, ())
        # the rule can't be kept: the price 4 is needed
        paper = ((), (("demand", 0), ("given", 1), ("add", ((0, 4), (1, 1)))), (), ())
        self.assertEqual(demands(question), ((("rule", 0), (((1, (0, 1)),), 1)),))
        self.assertIs(is_best_paper(question, (0, 1), paper), True)
        self.assertIs(is_best_paper(question, (0, 1), paper[:3] + (((1, 0),),)), False)
        self.assertIs(is_best_paper(question, (0, 0), paper), False)


class ClashPapers(Case):
    # two tasks of one group: both must be at the hour 0, and a rule on days that they can keep
    QUESTION = (
        book((2,), groups=(0,), tasks=(task(1, None, (), (0,)),) * 2, rules=(
            (("least", (0,), ((0,), None, None), 1), None), (("least", (1,), ((0,), None, None), 1), None),
            (("most", (0, 1), ((1,), None, None), 1), None))),
        None, (),
    )
    LOT = (("always", "group", 0), ("rule", 0), ("rule", 1))
    PAPER = (
        LOT,
        (("demand", 0), ("demand", 2), ("demand", 3), ("add", ((0, 1), (1, 1), (2, 1)))),
        ((0, 0), (1, 0), (0, 1)),
    )

    def is_paper(self, value):
        return is_clash_paper(self.QUESTION, value)

    def test_right(self):
        self.assertEqual([part for part, _ in demands(self.QUESTION)], [
            ("always", "group", 0), ("always", "group", 0), ("rule", 0), ("rule", 1), ("rule", 2)])
        self.assertEqual(sums_of(self.QUESTION, (), self.PAPER[1])[-1], ((), 1))
        self.assertIs(self.is_paper(self.PAPER), True)

    def test_lots_bent(self):
        right = self.PAPER
        for lot in NO_TUPLES + (
            None, (), self.LOT[:2], self.LOT[1:], self.LOT + (("rule", 2),), self.LOT[::-1], list(self.LOT),
            self.LOT + (("rule", 1),), changed(self.LOT, (1, 1), False), changed(self.LOT, (2, 1), True),
            changed(self.LOT, (0,), ("always", "group", 1)), changed(self.LOT, (0,), ("always", "room", 0)),
            changed(self.LOT, (0,), ["always", "group", 0]), changed(self.LOT, (1,), ("rule",)),
            changed(self.LOT, (1,), Odd()), changed(self.LOT, (1,), None), changed(self.LOT, (1, 0), Odd()),
            changed(self.LOT, (1, 1), Odd()), changed(self.LOT, (1, 1), 0.0), changed(self.LOT, (1,), ()),
        ):
            self.assertIs(self.is_paper((lot,) + right[1:]), False)

    def test_steps_bent(self):
        right = self.PAPER
        for steps in NO_TUPLES + (
            None, (), right[1][:3], list(right[1]), right[1] + (("demand", 0),), (("demand", 4),) + (("cap", 0),),
            right[1] + (None,), (("given", 0),),
        ):
            self.assertIs(self.is_paper((right[0], steps, right[2])), False)
        # a demand of another part may not even be named
        more = right[1][:3] + (("demand", 4), ("add", ((0, 1), (1, 1), (2, 1))))
        self.assertIs(is_refutation(self.QUESTION, (), more), True)
        self.assertIs(self.is_paper((right[0], more, right[2])), False)
        # another demand of the same part may be
        more = right[1][:3] + (("demand", 1), ("add", ((0, 1), (1, 1), (2, 1))))
        self.assertIs(self.is_paper((right[0], more, right[2])), True)

    def test_rows_bent(self):
        right = self.PAPER
        for rows in NO_TUPLES + (
            None, (), right[2][:2], right[2] + ((0, 0),), list(right[2]), changed(right[2], (0,), (0, 1)),
            changed(right[2], (0,), None), changed(right[2], (0,), [0, 0]), changed(right[2], (0,), (0, 0, 0)),
            changed(right[2], (0,), (0, False)), changed(right[2], (1,), (0, 1)), changed(right[2], (2,), (1, 0)),
            changed(right[2], (2,), (0, 2)), changed(right[2], (1,), (1, -1)), changed(right[2], (0,), Odd()),
            changed(right[2], (0,), (0, Odd())),
        ):
            self.assertIs(self.is_paper(right[:2] + (rows,)), False)

    def test_each_row_keeps_all_parts_behind(self):
        # a rule behind that only one row keeps
        rules = ((("least", (0,), ((0,), None, None), 1), None), (("least", (0,), ((1,), None, None), 1), None),
                 (("least", (1,), ((1,), None, None), 1), None))
        question = (book((2,), tasks=(FREE, FREE), rules=rules), None, ())
        lot = (("rule", 0), ("rule", 1))
        steps = (("demand", 0), ("demand", 1), ("add", ((0, 1), (1, 1))))
        for first, second in itertools.product(all_rows(question), all_rows(question)):
            right = first == (1, 1) and second == (0, 1)
            self.assertIs(is_clash_paper(question, (lot, steps, (first, second))), right)
        # those ahead that aren't in the lot needn't be kept
        question = (book((2,), tasks=(FREE, FREE), rules=rules[2:] + rules[:2]), None, ())
        lot = (("rule", 1), ("rule", 2))
        steps = (("demand", 1), ("demand", 2), ("add", ((0, 1), (1, 1))))
        for first, second in itertools.product(all_rows(question), all_rows(question)):
            right = first[0] == 1 and second[0] == 0
            self.assertIs(is_clash_paper(question, (lot, steps, (first, second))), right)

    def test_a_task_without_a_spot(self):
        question = (book(tasks=(FREE, task(1, ()))), None, ())
        self.assertIs(is_clash_paper(question, ((("task", 1),), (("demand", 0),), ((0, 0),))), True)
        self.assertIs(is_clash_paper(question, ((("task", True),), (("demand", 0),), ((0, 0),))), False)
        self.assertIs(is_clash_paper(question, ((("task", 0),), (("demand", 0),), ((0, 0),))), False)

    def test_at_most_one_lot(self):
        # two reasons: going through the parts the first one is taken away
        question = (book(tasks=(task(1, ()), task(1, ()))), None, ())
        self.assertEqual(parts(question), (("task", 0), ("task", 1)))
        for lot, steps in (((("task", 0),), (("demand", 0),)), ((("task", 1),), (("demand", 1),)),
                           (parts(question), (("demand", 1),))):
            rows = ((0, 0),) * len(lot)
            self.assertIs(is_clash_paper(question, (lot, steps, rows)), lot == (("task", 1),))

    def test_anything(self):
        for value in ANYTHING:
            for question in (self.QUESTION, THREE, PAIR, (EMPTY, None, ())):
                self.assertIs(is_clash_paper(question, value), False)
        right = self.PAPER
        for at in range(3):
            for value in ANYTHING:
                self.assertIs(self.is_paper(changed(right, (at,), value)), False)
        self.assertIs(self.is_paper(right + ((),)), False)
        self.assertIs(self.is_paper(list(right)), False)


class Wrong(Case):
    QUESTIONS = (
        (None, BadQuestion, {"place": ()}), ((None, None, ()), BadBook, {"place": ()}),
        ((EMPTY, 0, 0), BadQuestion, {"place": (1,)}), ((EMPTY, None, [()]), BadQuestion, {"place": (2,)}),
    )

    def test_questions_ahead_of_all_else(self):
        for question, error, attributes in self.QUESTIONS:
            for function in (sums_of, checked, is_refutation, is_best_paper):
                self.refused(error, attributes, function, question, None, None)
            self.refused(error, attributes, is_clash_paper, question, None)

    def test_givens_ahead_of_steps(self):
        for given in NO_TUPLES + (None, (0,), (("moves",),), (("moves", True),), (("price", 1.0),), (("x", 1),)):
            for function in (sums_of, checked, is_refutation):
                self.refused(BadParameter, {"value": given}, function, PAIR, given, None)


if __name__ == "__main__":
    unittest.main()
