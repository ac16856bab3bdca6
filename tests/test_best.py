"""[4], [6], [29], [30]: the best plan with its paper, and which of two plans is better."""

import itertools
import math
import unittest

from besthours.best import best, best_plan, is_better
from besthours.book import plan_of_row, row_of_plan, spots_of
from besthours.checking import is_best_paper, is_refutation, sums_of
from besthours.choices import row_of, sizes
from besthours.demands import keeps_all
from besthours.errors import BadBook, BadParameter, BadPlan, BadQuestion, NoRow, TooGreat, Unlike
from besthours.meaning import keeps, moves_of, price_of
from besthours.sums import greatest_under
from samples import Case, EMPTY, Maker, NO_TUPLES, Odd, book, changed, task

ANY = (None, None, None)
FREE = task()
GROUPED = task(1, None, (), (0,))
MOST_FIGURES = 10 ** 600


def asked(a_book, old=None, fixed=()):
    return (a_book, old, fixed)


def all_plans(a_book):
    return itertools.product(*(spots_of(a_book, number) for number in range(len(a_book[4]))))


def many_plans(a_book):
    return math.prod(len(spots_of(a_book, number)) for number in range(len(a_book[4])))


def let_plans(question):
    """All plans that keep the book and FIXED, the best one first: (MOVES, PRICE, ROW, PLAN)."""
    a_book, old, fixed = question
    found = []
    for plan in all_plans(a_book):
        row = row_of_plan(a_book, plan)
        if keeps(a_book, plan) and all(row[number] in numbers for number, numbers in fixed):
            found.append((len(moves_of(a_book, old, plan)), price_of(a_book, plan), row, plan))
    return sorted(found)


def numbers_in(value):
    """All integers in a value."""
    if isinstance(value, tuple):
        for item in value:
            yield from numbers_in(item)
    elif isinstance(value, int):
        yield value


class Questions(Maker):
    """Small questions by a fixed rule."""

    def small_book(self, most_plans=300, rules=5):
        """A book of one to three tasks with few plans."""
        while True:
            a_book = self.book(rules)
            if 1 <= len(a_book[4]) <= 3 and many_plans(a_book) <= most_plans:
                return a_book

    def question(self, most_plans=300, rules=5):
        a_book = self.small_book(most_plans, rules)
        old = None
        if self.chance.random() < 0.6:
            spots = [spots_of(a_book, number) for number in range(len(a_book[4]))]
            old = tuple(self.chance.choice(those + (None, (83, None, 29))) for those in spots)
        fixed = ()
        if self.chance.random() < 0.4:
            fixed = tuple(
                (number, self.set_of(len(spots_of(a_book, number)), 0.7))
                for number in range(len(a_book[4])) if self.chance.random() < 0.6)
        return asked(a_book, old, fixed)


class Judged(Case):
    def judge(self, question):
        """The answer, judged by itself and by all plans."""
        found = best(question)
        self.unchangeable(found)
        self.assertTrue(all(abs(number) < MOST_FIGURES for number in numbers_in(found)))
        wanted = let_plans(question)
        if not wanted:
            self.assertEqual((found[0], len(found)), ("none", 2))
            self.assertIs(is_refutation(question, (), found[1]), True)
            self.refused(NoRow, {}, best_plan, question)
            return found
        moves, price, row, plan = wanted[0]
        self.assertEqual(found[:4], ("plan", plan, moves, price))
        self.assertEqual(len(found), 5)
        self.assertEqual(best_plan(question), plan)
        self.judge_paper(question, found)
        return found

    def judge_paper(self, question, found):
        """The paper is taken for the row of the plan, and each of its parts is as the document tells it."""
        _, plan, moves, price, paper = found
        row = row_of(question, plan)
        fewer, cheaper, barred, bars = paper
        self.assertIs(is_best_paper(question, row, paper), True)
        if moves:
            self.assertIs(is_refutation(question, (("moves", moves - 1),), fewer), True)
        else:
            self.assertEqual(fewer, ())
        if price:
            self.assertIs(is_refutation(question, (("moves", moves), ("price", price - 1)), cheaper), True)
        else:
            self.assertEqual(cheaper, ())
        self.assertEqual([task for task, _ in bars], [at for at in range(len(plan)) if row[at] > 0])
        sums = sums_of(question, (("moves", moves), ("price", price)), barred)
        many = sizes(question)
        for at, number in bars:
            one = sums[number]
            self.assertTrue(all(choice <= at for choice, _ in one[0]))
            sets = tuple((value,) for value in row[:at]) + (tuple(range(row[at])),)
            sets += tuple(tuple(range(size)) for size in many[at + 1:])
            self.assertLess(greatest_under(many, one, sets), one[1])


class Small(Judged):
    def test_example(self):
        question = asked(book((2,), groups=(0,), tasks=(task(1, None, (), (0,), None, ((0, 5),)), GROUPED)))
        found = self.judge(question)
        self.assertEqual(found[1:4], (((1, None, None), (0, None, None)), 0, 0))
        self.assertEqual(found[4][:2], ((), ()))
        self.assertEqual([at for at, _ in found[4][3]], [0])
        # the bar of the document: the given sum of the price 0
        self.assertIs(is_best_paper(question, (1, 0), ((), (), (("given", 1),), ((0, 0),))), True)

    def test_nothing(self):
        self.assertEqual(best(asked(EMPTY)), ("plan", (), 0, 0, ((), (), (), ())))
        self.assertEqual(best((EMPTY, (), ())), ("plan", (), 0, 0, ((), (), (), ())))
        self.assertEqual(best_plan(asked(EMPTY)), ())

    def test_rules_that_no_plan_keeps(self):
        never = ("least", (), ANY, 1)
        self.judge(asked(book(rules=((never, None),))))
        found = self.judge(asked(book(rules=((never, 3), (never, 4)))))
        self.assertEqual(found[2:4], (0, 7))
        self.judge(asked(book(tasks=(FREE, task(1, ())))))
        self.judge(asked(book(tasks=(FREE, FREE)), None, ((1, ()),)))

    def test_moves_ahead_of_the_price(self):
        dear = task(1, None, (), (0,), None, ((0, 10 ** 6),))
        a_book = book((3,), groups=(0,), tasks=(dear, GROUPED))
        found = self.judge(asked(a_book, ((0, None, None), (1, None, None))))
        self.assertEqual(found[1:4], (((0, None, None), (1, None, None)), 0, 10 ** 6))
        # what is no spot of the task is no move
        found = self.judge(asked(a_book, ((0, 0, None), (1, None, None))))
        self.assertEqual(found[1:4], (((2, None, None), (1, None, None)), 0, 0))
        found = self.judge(asked(a_book, ((0, None, None), (0, None, None))))
        self.assertEqual(found[1:4], (((1, None, None), (0, None, None)), 1, 0))

    def test_a_rule_may_be_broken_for_its_price(self):
        tasks = (task(1, None, (), (), None, ((0, 3),)), FREE)
        for price, wanted in ((2, (1, 2)), (3, (0, 3)), (4, (0, 3))):
            rules = ((("least", (0,), ((0,), None, None), 1), price),)
            found = self.judge(asked(book((2,), tasks=tasks, rules=rules)))
            self.assertEqual((found[1][0][0], found[3]), wanted)

    def test_all_plans(self):
        maker = Questions(51)
        words, seen = {"plan": 0, "none": 0}, set()
        parts = [0, 0, 0]
        for _ in range(1200):
            question = maker.question()
            found = self.judge(question)
            words[found[0]] += 1
            seen |= {rule[0][0] for rule in question[0][5]}
            if found[0] == "plan":
                parts = [many + bool(part) for many, part in zip(parts, (found[2], found[3], found[4][3]))]
        self.assertGreater(min(words.values()), 150)
        self.assertGreater(min(parts), 15)
        self.assertEqual(len(seen), 7)

    def test_the_paper_is_no_other_rows(self):
        maker = Questions(52)
        tried = 0
        while tried < 80:
            question = maker.question(60, 2)
            found = best(question)
            if found[0] == "none" or math.prod(sizes(question)) > 200:
                continue
            tried += 1
            row = row_of(question, found[1])
            for other in itertools.product(*(range(many) for many in sizes(question))):
                self.assertIs(is_best_paper(question, other, found[4]), other == row)

    def test_papers_bent(self):
        # whatever paper is taken, the row is the best one
        maker = Questions(53)
        chance = maker.chance
        taken = tried = 0
        while tried < 300:
            question = maker.question(60)
            found = best(question)
            if found[0] == "none":
                continue
            tried += 1
            row, paper = row_of(question, found[1]), found[4]
            part = chance.randrange(4)
            if not paper[part]:
                bent = changed(paper, (part,), (("add", ()),))
                # one more step is let in BARRED alone
                self.assertIs(is_best_paper(question, row, bent), part == 2)
                continue
            at = chance.randrange(len(paper[part]))
            bent = changed(paper, (part,), paper[part][:at] + paper[part][at + 1:])
            taken += is_best_paper(question, row, bent)
            for value in NO_TUPLES + (None, (), Odd()):
                self.assertIs(is_best_paper(question, row, changed(paper, (part, at), value)), False)
        self.assertLess(taken, 60)


class Greater(Judged):
    """Books whose plans are too many to be tried."""

    def paper_of(self, question):
        found = best(question)
        self.unchangeable(found)
        self.assertTrue(all(abs(number) < MOST_FIGURES for number in numbers_in(found)))
        if found[0] == "none":
            self.assertIs(is_refutation(question, (), found[1]), True)
        else:
            self.judge_paper(question, found)
            self.assertTrue(keeps_all(question, row_of(question, found[1])))
        return found

    def test_one_more_task_than_hours(self):
        for days in ((1,), (2,), (5,), (8,), (12, 12), (12, 12, 12, 3)):
            many = sum(days)
            tasks = (GROUPED,) * (many + 1)
            self.assertEqual(self.paper_of(asked(book(days, groups=(0,), tasks=tasks)))[0], "none")
            found = self.paper_of(asked(book(days, groups=(0,), tasks=tasks[1:])))
            self.assertEqual(found[1], tuple((hour, None, None) for hour in range(many)))

    def test_in_rooms(self):
        rooms = ((0, ()),) * 3
        tasks = (task(features=()),) * 13
        self.assertEqual(self.paper_of(asked(book((4,), rooms, tasks=tasks)))[0], "none")
        found = self.paper_of(asked(book((4,), rooms, tasks=tasks[1:])))
        self.assertEqual(found[1], tuple((hour, room, None) for hour in range(4) for room in range(3)))

    def test_rules_that_go_round(self):
        for many in (3, 12, 40):
            rules = tuple((("before", one, (one + 1) % many, 1), None) for one in range(many))
            a_book = book((12,) * 4, tasks=(FREE,) * many, rules=rules)
            self.assertEqual(self.paper_of(asked(a_book))[0], "none")
            found = self.paper_of(asked(changed(a_book, (5,), rules[:-1])))
            self.assertEqual(found[1], tuple((hour, None, None) for hour in range(many)))
            # each one may be broken for its price: one is
            priced = tuple((what, 7 + at) for at, (what, _) in enumerate(rules))
            self.assertEqual(self.paper_of(asked(changed(a_book, (5,), priced)))[3], 7)

    def test_prices_to_be_borne(self):
        # eight tasks of one group on eight hours, each hour with a price: the cheapest placing, by trying all
        for seed in range(3):
            chance = Maker(seed).chance
            prices = [[chance.randint(1, 10 ** 6) for _ in range(7)] for _ in range(7)]
            tasks = tuple(task(1, None, (), (0,), None, tuple(enumerate(row))) for row in prices)
            found = self.paper_of(asked(book((7,), groups=(0,), tasks=tasks)))
            wanted = min((sum(row[hour] for row, hour in zip(prices, hours)), hours)
                         for hours in itertools.permutations(range(7)))
            self.assertEqual((found[3], tuple(spot[0] for spot in found[1])), wanted)

    def test_an_old_plan_that_must_give_way(self):
        # everybody stands one hour later if the first hour is taken
        tasks = (task(1, (0,), (), (0,)),) + (GROUPED,) * 9
        old = (None,) + tuple((hour, None, None) for hour in range(9))
        found = self.paper_of(asked(book((10,), groups=(0,), tasks=tasks), old))
        self.assertEqual((found[1][:3], found[2]), (((0, None, None), (9, None, None), (1, None, None)), 1))

    def test_forty_tasks(self):
        rooms, people = ((30, ()), (30, (1,))), (tuple(range(30)), tuple(range(0, 30, 2)))
        chance = Maker(7).chance
        tasks = tuple(
            task(chance.choice((1, 1, 2)) if who == 0 else 1, None, (who,), (at % 5,), (), ((at % 7, 5), (20, 10 ** 6)))
            for at, who in ((at, int(at % 4 == 3)) for at in range(32)))
        rules = (
            (("close", ("group", 0), (0, 5, 10, 15)), 50), (("before", 0, 8, 3), None), (("unlike", 1, 2, "day"), 40),
            (("alike", 3, 7, "room"), 9), (("most", tuple(range(10)), ((0, 1, 2), None, None), 2), None),
            (("load", (4, 9, 14), (None, (1,), None), 2, 4), 30), (("least", (30, 31), ((29,), None, None), 1), 6),
        )
        self.assertEqual(sum(one[0] for one in tasks if one[2] == (0,)) <= 30, True)
        found = self.paper_of(asked(book((6,) * 5, rooms, people, (10,) * 5, tasks, rules)))
        self.assertEqual(found[0], "plan")
        self.assertEqual(found, best(asked(book((6,) * 5, rooms, people, (10,) * 5, tasks, rules))))

    def test_greatest_prices(self):
        # forty rules none of which can be kept, at the greatest price
        rules = ((("least", (), ANY, 1), 10 ** 6),) * 40
        self.assertEqual(self.paper_of(asked(book(rules=rules)))[3], 40 * 10 ** 6)


class Better(Case):
    BOOK = book((3,), groups=(0,), tasks=(task(1, None, (), (0,), None, ((0, 5),)), GROUPED))

    def plan(self, *hours):
        return tuple((hour, None, None) for hour in hours)

    def test_by_hand(self):
        question = asked(self.BOOK, self.plan(0, 1))
        for one, other, wanted in (
            ((0, 1), (1, 0), True), ((1, 0), (0, 1), False), ((0, 1), (0, 1), False),
            # as many moves: the price, then the spots
            ((0, 2), (2, 1), False), ((2, 1), (0, 2), True), ((1, 2), (2, 0), True), ((1, 0), (1, 2), True),
            ((1, 2), (1, 0), False), ((2, 0), (1, 2), False),
        ):
            self.assertIs(is_better(question, self.plan(*one), self.plan(*other)), wanted)

    def test_all_plans(self):
        maker = Questions(54)
        for _ in range(150):
            question = maker.question(40)
            plans = let_plans(question)
            for one, other in itertools.product(plans[:6], plans[:6]):
                self.assertIs(is_better(question, one[3], other[3]), one < other)

    def test_unlike(self):
        question = asked(self.BOOK, None, ((1, (1, 2)),))
        good, bad, barred = self.plan(0, 1), self.plan(1, 1), self.plan(1, 0)
        self.assertIs(is_better(question, good, good), False)
        for wrong in (bad, barred):
            self.refused(Unlike, {"value": wrong}, is_better, question, wrong, good)
            self.refused(Unlike, {"value": wrong}, is_better, question, good, wrong)
        self.refused(Unlike, {"value": bad}, is_better, question, bad, barred)
        self.refused(Unlike, {"value": barred}, is_better, question, barred, bad)
        # a price doesn't make a plan unlike, a rule that must be kept does
        rule = ("alike", 0, 1, "start")
        for price, refused in ((3, False), (None, True)):
            question = asked(changed(self.BOOK, (5,), ((rule, price),)))
            if refused:
                self.refused(Unlike, {"value": good}, is_better, question, good, good)
            else:
                self.assertIs(is_better(question, good, barred), False)

    def test_wrong_plans(self):
        question = asked(self.BOOK)
        good, bad = self.plan(0, 1), self.plan(1, 1)
        for plan in NO_TUPLES + (None, (), good[:1], good + good[:1], list(good)):
            self.refused(BadPlan, {"place": ()}, is_better, question, plan, None)
            self.refused(BadPlan, {"place": ()}, is_better, question, good, plan)
            self.refused(BadPlan, {"place": ()}, is_better, question, bad, plan)
        for at in (0, 1):
            for spot in NO_TUPLES + (None, (), (3, None, None), (0, 0, None), (True, None, None)):
                wrong = changed(good, (at,), spot)
                self.refused(BadPlan, {"place": (at,)}, is_better, question, wrong, None)
                self.refused(BadPlan, {"place": (at,)}, is_better, question, bad, wrong)


class Wrong(Case):
    def test_questions(self):
        great = ((12,) * 7, (), (), (0,), (task(),) * 40, ((("close", ("group", 0), tuple(range(40))), None),))
        for question, error, attributes in (
            (None, BadQuestion, {"place": ()}), ((EMPTY, None), BadQuestion, {"place": ()}),
            ((None, None, ()), BadBook, {"place": ()}), ((changed(EMPTY, (5,), (0,)), 0, 0), BadBook, {"place": (5, 0)}),
            ((EMPTY, 0, 0), BadQuestion, {"place": (1,)}), ((EMPTY, None, 0), BadQuestion, {"place": (2,)}),
            ((EMPTY, None, (0,)), BadQuestion, {"place": (2, 0)}), ((great, None, ()), TooGreat, {"most": 40000}),
        ):
            self.refused(error, attributes, best, question)
            self.refused(error, attributes, best_plan, question)
            self.refused(error, attributes, is_better, question, None, None)
        for question in NO_TUPLES:
            self.refused(BadQuestion, {"place": ()}, best, question)

    def test_the_row_of_the_answer(self):
        question = asked(book((2,), tasks=(FREE,)))
        self.refused(BadParameter, {"value": (True,)}, is_best_paper, question, (True,), best(question)[4])
        self.assertEqual(plan_of_row(question[0], (0,)), best_plan(question))


if __name__ == "__main__":
    unittest.main()
