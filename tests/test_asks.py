"""[41], [42], [43]: held questions, whether a task may be at a spot, why not, and swaps."""

import itertools
import unittest

from besthours.asks import held_to, may, swap, why_not
from besthours.best import best, best_plan, is_better
from besthours.book import row_of_plan, spots_of
from besthours.checking import is_best_paper, is_refutation
from besthours.choices import need_question, row_of
from besthours.errors import BadBook, BadParameter, BadPlan, BadQuestion, NoRow, TooGreat
from samples import Case, Crowd, EMPTY, NO_INTEGERS, NO_TUPLES, ODD, Odd, book, changed, task
from test_best import all_plans, let_plans

FREE = task()
GROUPED = task(1, None, (), (0,))
GREAT = ((12,) * 7, (), (), (0,), (FREE,) * 40, ((("close", ("group", 0), tuple(range(40))), None),))


def at(*hours):
    return tuple((hour, None, None) for hour in hours)


def asked(a_book, old=None, fixed=()):
    return (a_book, old, fixed)


# the example of the document: two tasks of one group on a day of three hours, the hour 0 costs 5 for the first one
TWO = asked(book((3,), groups=(0,), tasks=(task(1, None, (), (0,), None, ((0, 5),)), GROUPED)))
NOWHERE = asked(book((3,), groups=(0,), tasks=(task(1, ()), GROUPED)))


def tasks_of(question):
    return range(len(question[0][4]))


def many_spots(question, number):
    return len(spots_of(question[0], number))


class Judged(Case):
    def judge(self, question, found):
        """What `best` tells of a question, judged by all plans; the plans that are let, the best one first."""
        self.unchangeable(found)
        wanted = let_plans(question)
        if not wanted:
            self.assertEqual((found[0], len(found)), ("none", 2))
            self.assertIs(is_refutation(question, (), found[1]), True)
        else:
            moves, price, _, plan = wanted[0]
            self.assertEqual((found[:4], len(found)), (("plan", plan, moves, price), 5))
            self.assertIs(is_best_paper(question, row_of(question, plan), found[4]), True)
        return wanted


class Held(Case):
    def test_by_hand(self):
        a_book = book((4,), tasks=(FREE,) * 4)
        question = asked(a_book, None, ((0, (1,)), (2, (0, 1, 3))))
        for number, spots, wanted in (
            (1, (2, 3), ((0, (1,)), (1, (2, 3)), (2, (0, 1, 3)))), (3, (), ((0, (1,)), (2, (0, 1, 3)), (3, ()))),
            (2, (1, 2, 3), ((0, (1,)), (2, (1, 3)))), (2, (2,), ((0, (1,)), (2, ()))), (2, (), ((0, (1,)), (2, ()))),
            (0, (0, 1, 2, 3), ((0, (1,)), (2, (0, 1, 3)))), (1, (0, 1, 2, 3), ((0, (1,)), (1, (0, 1, 2, 3)), (2, (0, 1, 3)))),
        ):
            held = held_to(question, number, spots)
            self.assertEqual(held, (a_book, None, wanted))
            self.unchangeable(held)
            self.assertEqual(need_question(held), held)
            self.assertEqual(held_to(task=number, spots=spots, question=question), held)
        old = (None,) * 4
        self.assertEqual(held_to(asked(a_book, old), 3, (1,)), (a_book, old, ((3, (1,)),)))
        self.assertEqual(held_to(NOWHERE, 0, ()), changed(NOWHERE, (2,), ((0, ()),)))

    def test_all_plans(self):
        # what the held question lets are just the plans with one of the spots, in the same order
        crowd = Crowd(411)
        for _ in range(120):
            question = crowd.question(80)
            plans = let_plans(question)
            for number in tasks_of(question):
                spots = crowd.set_of(many_spots(question, number), 0.5)
                held = held_to(question, number, spots)
                wanted = [one for one in plans if one[2][number] in spots]
                self.assertEqual(let_plans(held), wanted)
                for one, other in itertools.product(wanted[:4], wanted[:4]):
                    better = is_better(question, one[3], other[3])
                    self.assertIs(is_better(held, one[3], other[3]), better)
                    self.assertIs(better, one < other)
                # held again: what is in both
                again = crowd.set_of(many_spots(question, number), 0.5)
                both = tuple(spot for spot in spots if spot in again)
                self.assertEqual(held_to(held, number, again), held_to(question, number, both))


class May(Judged):
    def test_every_task_at_every_spot(self):
        crowd = Crowd(421)
        words = []
        for _ in range(70):
            question = crowd.question(60)
            for number in tasks_of(question):
                for spot in range(many_spots(question, number)):
                    found = may(question, number, spot)
                    held = held_to(question, number, (spot,))
                    self.judge(held, found)
                    words.append(found[0])
                    if found[0] == "plan":
                        self.assertEqual(row_of_plan(question[0], found[1])[number], spot)
        self.assertGreater(words.count("plan"), 200)
        self.assertGreater(words.count("none"), 200)

    def test_by_hand(self):
        self.assertEqual(may(TWO, 0, 0)[1:4], (at(0, 1), 0, 5))
        self.assertEqual(may(TWO, 0, 2)[1:4], (at(2, 0), 0, 0))
        self.assertEqual(may(TWO, 1, 1)[1:4], (at(2, 1), 0, 0))
        self.assertEqual(may(NOWHERE, 1, 1)[0], "none")
        fixed = changed(TWO, (2,), ((1, (0,)),))
        found = may(spot=1, task=1, question=fixed)
        self.assertEqual(found[0], "none")
        self.assertIs(is_refutation(held_to(fixed, 1, (1,)), (), found[1]), True)
        self.assertEqual(may(fixed, 1, 0), best(fixed))


class Why(Judged):
    def why_by_hand(self, question, number, spot):
        """The word and the number of the answer, by all plans."""
        plans = let_plans(question)
        there = [one for one in plans if one[2][number] == spot]
        if not there:
            return ("none",)
        mine, other = plans[0], there[0]
        if mine == other:
            return ("best",)
        if other[0] > mine[0]:
            return ("moves", other[0] - mine[0])
        if other[1] > mine[1]:
            return ("dearer", other[1] - mine[1])
        return ("later",)

    def test_every_task_at_every_spot(self):
        crowd = Crowd(422)
        words = []
        tried = 0
        while tried < 60:
            question = crowd.question(60)
            if not let_plans(question):
                for number in tasks_of(question):
                    for spot in range(many_spots(question, number)):
                        self.refused(NoRow, {}, why_not, question, number, spot)
                continue
            tried += 1
            for number in tasks_of(question):
                bests = 0
                for spot in range(many_spots(question, number)):
                    found = why_not(question, number, spot)
                    self.unchangeable(found)
                    wanted = self.why_by_hand(question, number, spot)
                    words.append(wanted[0])
                    self.assertEqual(found[:len(wanted)], wanted)
                    answer = may(question, number, spot)
                    if wanted[0] == "best":
                        self.assertEqual(found, ("best",))
                        self.assertEqual(answer[1], best_plan(question))
                        bests += 1
                    elif wanted[0] == "none":
                        self.assertEqual(len(found), 2)
                        self.assertIs(is_refutation(held_to(question, number, (spot,)), (), found[1]), True)
                    else:
                        self.assertEqual(found, wanted + (answer,))
                self.assertEqual(bests, 1)
        for word in ("best", "none", "moves", "dearer", "later"):
            self.assertGreater(words.count(word), 10, word)

    def test_example(self):
        self.assertEqual(best_plan(TWO), at(1, 0))
        self.assertEqual(why_not(TWO, 0, 0), ("dearer", 5, may(TWO, 0, 0)))
        self.assertEqual(why_not(TWO, 0, 2), ("later", may(TWO, 0, 2)))
        self.assertEqual(why_not(TWO, 1, 0), ("best",))
        self.assertEqual(why_not(TWO, 0, 1), ("best",))
        self.assertEqual(why_not(TWO, 1, 2)[0], "later")

    def test_moves_count_ahead_of_the_price(self):
        question = asked(TWO[0], at(0, 1))
        self.assertEqual(best(question)[1:4], (at(0, 1), 0, 5))
        found = why_not(task=0, spot=1, question=question)
        self.assertEqual(found[:2], ("moves", 2))
        self.assertEqual(found[2][1:4], (at(1, 0), 2, 0))
        self.assertEqual(why_not(question, 0, 2)[:2], ("moves", 1))

    def test_none(self):
        full = asked(book((2,), groups=(0,), tasks=(GROUPED, GROUPED)), None, ((1, (1,)),))
        found = why_not(full, 0, 1)
        self.assertEqual(found[0], "none")
        self.assertIs(is_refutation(held_to(full, 0, (1,)), (), found[1]), True)
        found = why_not(full, 1, 0)
        self.assertEqual(found[0], "none")
        self.assertIs(is_refutation(held_to(full, 1, (0,)), (), found[1]), True)
        for question in (NOWHERE, changed(full, (2,), ((0, ()),)), changed(full, (2,), ((0, (1,)), (1, (1,))))):
            self.refused(NoRow, {}, why_not, question, 1, 0)
            self.refused(BadParameter, {"value": 9}, why_not, question, 1, 9)


class Swaps(Judged):
    def test_example(self):
        found = swap(TWO, at(1, 0), 0, 0)
        self.assertEqual(found[1:4], (at(0, 1), 2, 5))
        self.assertEqual(swap(spot=0, task=0, plan=at(1, 0), question=TWO), found)

    def test_all_plans(self):
        crowd = Crowd(431)
        tried = moves = 0
        while tried < 250:
            question = crowd.question(60)
            plans = list(all_plans(question[0]))
            if not plans:
                continue
            plan = crowd.chance.choice([one[3] for one in let_plans(question)] + plans[:3])
            number = crowd.chance.randrange(len(plan))
            spot = crowd.chance.randrange(many_spots(question, number))
            found = swap(question, plan, number, spot)
            beside = (question[0], plan, held_to(question, number, (spot,))[2])
            wanted = self.judge(beside, found)
            tried += 1
            if not wanted:
                continue
            moves += found[2] > 1
            self.assertEqual(row_of_plan(question[0], found[1])[number], spot)
            # with fewer moves no plan that is let has the task there
            if found[2] > 0:
                self.assertIs(is_refutation(beside, (("moves", found[2] - 1),), found[4][0]), True)
            # from the answer the same swap moves nothing
            again = swap(question, found[1], number, spot)
            self.assertEqual(again[:4], ("plan", found[1], 0, found[3]))
        self.assertGreater(moves, 20)

    def test_a_plan_that_is_let_and_has_it(self):
        crowd = Crowd(432)
        tried = 0
        while tried < 40:
            question = crowd.question(60)
            for _, price, row, plan in let_plans(question)[:3]:
                for number in tasks_of(question):
                    tried += 1
                    self.assertEqual(swap(question, plan, number, row[number])[:4], ("plan", plan, 0, price))

    def test_a_plan_that_is_not_let(self):
        self.assertEqual(swap(TWO, at(1, 1), 0, 1)[1:4], (at(1, 0), 1, 0))
        self.assertEqual(swap(TWO, at(2, 2), 0, 1)[1:4], (at(1, 2), 1, 0))
        fixed = changed(TWO, (2,), ((0, (2,)), (1, (0, 1))))
        found = swap(fixed, at(1, 2), 0, 1)
        self.assertEqual(found[0], "none")
        self.assertIs(is_refutation(held_to(fixed, 0, (1,)), (), found[1]), True)
        # the question's own old plan doesn't count
        self.assertEqual(swap(changed(TWO, (1,), at(0, 2)), at(1, 0), 0, 2)[1:4], (at(2, 0), 1, 0))


FUNCTIONS = ((held_to, (None, None)), (may, (None, None)), (why_not, (None, None)), (swap, (None, None, None)))


class Wrong(Case):
    def test_questions(self):
        for question, error, attributes in (
            (None, BadQuestion, {"place": ()}), ((EMPTY, None), BadQuestion, {"place": ()}),
            ((None, None, ()), BadBook, {"place": ()}), ((EMPTY, 0, 0), BadQuestion, {"place": (1,)}),
            ((EMPTY, None, (0,)), BadQuestion, {"place": (2, 0)}), ((GREAT, None, ()), TooGreat, {"most": 40000}),
            ((EMPTY, None, ((True, ()),)), BadQuestion, {"place": (2, 0)}),
        ):
            for function, more in FUNCTIONS:
                self.refused(error, attributes, function, question, *more)
        for question in NO_TUPLES:
            for function, more in FUNCTIONS:
                self.refused(BadQuestion, {"place": ()}, function, question, *more)

    def test_tasks(self):
        for wrong in NO_INTEGERS + (None, 2, -1):
            for function in (held_to, may, why_not):
                self.refused(BadParameter, {"value": wrong}, function, TWO, wrong, None)
                self.refused(BadParameter, {"value": wrong}, function, TWO, wrong, ())
                self.refused(BadParameter, {"value": wrong}, function, TWO, wrong, 0)
            self.refused(BadParameter, {"value": wrong}, swap, TWO, at(0, 1), wrong, None)
        self.refused(BadParameter, {"value": 0}, may, asked(EMPTY), 0, 0)

    def test_spots(self):
        for wrong in NO_INTEGERS + (None, 3, -1):
            for function in (may, why_not):
                self.refused(BadParameter, {"value": wrong}, function, TWO, 0, wrong)
            self.refused(BadParameter, {"value": wrong}, swap, TWO, at(0, 1), 1, wrong)
        self.refused(BadParameter, {"value": 0}, may, NOWHERE, 0, 0)
        self.refused(BadParameter, {"value": 0}, why_not, NOWHERE, 0, 0)

    def test_sets_of_spots(self):
        wrong = NO_TUPLES + (
            None, (3,), (-1,), (1, 0), (0, 0), (True,), (False, 1), (0.0,), (None,), ((0,),), (Odd(),), [0], ("0",))
        for spots in wrong:
            self.refused(BadParameter, {"value": spots}, held_to, TWO, 0, spots)
        self.refused(BadParameter, {"value": (0,)}, held_to, NOWHERE, 0, (0,))

    def test_plans(self):
        for plan in NO_TUPLES + (None, (), at(0), at(0, 1, 2), list(at(0, 1))):
            self.refused(BadPlan, {"place": ()}, swap, TWO, plan, None, None)
        for number, spot in itertools.product((0, 1), ODD + (None, (), (3, None, None), (False, None, None))):
            wrong = changed(at(0, 1), (number,), spot)
            self.refused(BadPlan, {"place": (number,)}, swap, TWO, wrong, 7, 7)
        self.refused(BadPlan, {"place": (0,)}, swap, NOWHERE, at(0, 1), 7, 7)


if __name__ == "__main__":
    unittest.main()
