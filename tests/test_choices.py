"""[4], [5], [18]: questions, their choices and rows."""

import itertools
import unittest

from besthours.book import row_of_plan, spots_of
from besthours.choices import need_question, plan_of, row_moves, row_of, row_price, sizes
from besthours.errors import BadBook, BadParameter, BadPlan, BadQuestion, NoRow, TooGreat
from besthours.meaning import moves_of, price_of, rules_broken
from samples import (
    Case, EMPTY, EXAMPLE, MEETABLE, Maker, NO_INTEGERS, NO_TUPLES, ODD, RICH, book, changed, task,
)

ANY = (None, None, None)
OLD = ((0, 2, 0), None, (4, None, None), (83, 11, 29))
FIXED = ((0, (0, 3, 13)), (2, ()), (3, (0,)))
ASKED = (MEETABLE, OLD, FIXED)


def asked(a_book):
    return (a_book, None, ())


def all_rows(question):
    return itertools.product(*(range(many) for many in sizes(question)))


class Questions(Case):
    def right(self, question):
        self.assertIs(need_question(question), question)

    def wrong(self, place, question):
        for function in (need_question, sizes):
            self.refused(BadQuestion, {"place": place}, function, question)
        for function in (plan_of, row_of, row_moves, row_price):
            self.refused(BadQuestion, {"place": place}, function, question, None)

    def test_right(self):
        for question in (asked(EMPTY), (EMPTY, (), ()), asked(RICH), ASKED, (MEETABLE, (None,) * 4, ())):
            self.right(question)

    def test_no_question(self):
        for question in NO_TUPLES + (None, (), (EMPTY,), (EMPTY, None), (EMPTY, None, (), ()), [EMPTY, None, ()]):
            self.wrong((), question)

    def test_the_errors_of_the_book(self):
        for function in (need_question, sizes):
            self.refused(BadBook, {"place": ()}, function, (None, 0, 0))
            self.refused(BadBook, {"place": (5, 0)}, function, (changed(EMPTY, (5,), (0,)), 0, 0))
            great = book((12,) * 7, ((0, ()),) * 3, (), (), (task(features=()),))
            self.refused(TooGreat, {"most": 200}, function, (great, 0, 0))

    def test_old(self):
        for item in (None, (0, None, None), (83, 11, 29), (83, None, 29), (0, 0, None)):
            for at in range(4):
                self.right((MEETABLE, changed((None,) * 4, (at,), item), ()))
        for old in NO_TUPLES + ((), (None,) * 3, (None,) * 5, [None] * 4):
            self.wrong((1,), (MEETABLE, old, ()))
        items = ODD + (
            0, (), (0, None), (0, None, None, None), [0, None, None], (84, None, None), (-1, None, None),
            (None, None, None), (0, 12, None), (0, -1, None), (0, None, 30), (0, None, -1), (10 ** 5000, None, None),
        )
        items += tuple(changed((0, 0, 0), (at,), value) for at in (0, 1, 2) for value in NO_INTEGERS)
        for item in items:
            for at in (0, 3):
                # ahead of FIXED
                self.wrong((1,), (MEETABLE, changed((None,) * 4, (at,), item), None))

    def test_fixed(self):
        self.assertEqual([len(spots_of(MEETABLE, number)) for number in range(4)], [14, 6, 2, 1])
        for fixed in (
            (), FIXED, ((0, ()), (1, ()), (2, ()), (3, ())), ((1, tuple(range(6))),), ((0, (13,)),), ((3, (0,)),),
        ):
            self.right((MEETABLE, OLD, fixed))
        for fixed in NO_TUPLES + (None, [(0, ())], {0: ()}):
            self.wrong((2,), (MEETABLE, OLD, fixed))

    def test_things_of_fixed(self):
        things = NO_TUPLES + (
            None, (), (1,), (1, (), ()), [1, ()], (4, ()), (1, None), (1, 0), (1, [0]), (1, (6,)), (1, (-1,)),
            (1, (1, 1)), (1, (1, 0)), (1, (True,)), (1, (None,)), (1, (0.0,)), (3, (1,)), (2, (0, 2)), (-1, ()),
        ) + tuple((value, ()) for value in NO_INTEGERS + (None, 10 ** 5000))
        for thing in things:
            self.wrong((2, 0), (MEETABLE, None, (thing,)))
            self.wrong((2, 1), (MEETABLE, None, ((0, (1,)), thing)))
            self.wrong((2, 1), (MEETABLE, None, ((0, (1,)), thing, None)))

    def test_tasks_of_fixed_ascend(self):
        self.wrong((2, 1), (MEETABLE, None, ((0, ()), (0, ()))))
        self.wrong((2, 1), (MEETABLE, None, ((1, ()), (0, ()))))
        self.wrong((2, 2), (MEETABLE, None, ((0, ()), (2, ()), (1, ()))))
        self.wrong((2, 4), (MEETABLE, None, ((0, ()), (1, ()), (2, ()), (3, ()), (0, ()))))

    def test_fixed_of_a_task_without_a_spot(self):
        self.right((RICH, None, ((4, ()),)))
        self.wrong((2, 0), (RICH, None, ((4, (0,)),)))


class TooMany(Case):
    def great(self, question):
        for function in (need_question, sizes):
            self.refused(TooGreat, {"most": 40000}, function, question)

    def edge(self, days, rules, shared, tasks):
        """With the rules and `shared` groups there are just 40,000 sums; one sum more is too great."""
        few = (days, (), (), (0,) * shared, tasks, rules)
        self.assertIsNotNone(need_question(asked(few)))
        more = (("least", (), ANY, 0), None)
        self.great(asked(changed(few, (5,), rules + (more,))))

    def test_close(self):
        # 80 hours: 22 tasks make 462 pairs, 38 groups, rooms and people: 500 times 80
        days, tasks = (12,) * 6 + (8,), (task(),) * 40
        close = (("close", ("group", 0), tuple(range(22))), 5)
        a_book = (days, ((0, ()),) * 3, ((),) * 5, (0,) * 30, tasks, (close,))
        self.assertIsNotNone(need_question(asked(a_book)))
        one = (("most", (), ANY, 0), 1)
        self.great(asked(changed(a_book, (5,), (close, one))))
        for number, thing in ((1, (0, ())), (2, ())):
            self.great(asked(changed(a_book, (number,), a_book[number] + (thing,))))

    def test_each_rule_counts(self):
        days, tasks = (10,) * 7, (task(),) * 40
        for rule, many in (
            (("least", (0,), ANY, 0), 1), (("most", (0,), ANY, 0), 1), (("load", (), ANY, 0, 0), 2),
            (("before", 0, 1, 0), 70), (("alike", 0, 1, "day"), 115), (("unlike", 0, 1, "person"), 115),
            (("close", ("group", 0), (0, 1, 2)), 420), (("close", ("group", 0), (0,)), 0),
            (("close", ("group", 0), ()), 0), (("close", ("group", 0), (0, 1)), 140),
        ):
            for price in (None, 3):
                self.edge(days, *self.filled(days, (rule, price), many), tasks)

    def filled(self, days, rule, many):
        """Rules with this one among them, and how many groups, that come to just 40,000 sums."""
        hours = sum(days)
        left = 40000 - many - hours
        rules = [rule]
        # at first closes, as great as they may be, then groups, then loads and leasts
        for count in range(23, 1, -1):
            while hours * count * (count - 1) <= left and len(rules) < 10:
                rules.append((("close", ("group", 0), tuple(range(count))), None))
                left -= hours * count * (count - 1)
        groups = min(left // hours, 29)
        left -= hours * groups
        for what, each in (
            (("alike", 0, 1, "day"), hours + 45), (("before", 0, 1, 0), hours), (("load", (), ANY, 0, 0), 2),
            (("least", (), ANY, 0), 1),
        ):
            while left >= each:
                rules.append((what, None))
                left -= each
        self.assertLess(len(rules), 40)
        return tuple(rules), groups + 1

    def test_last(self):
        rules = (("close", ("group", 0), tuple(range(40))), None),
        great = ((12,) * 7, (), (), (0,), (task(),) * 40, rules)
        self.great(asked(great))
        self.refused(BadQuestion, {"place": (1,)}, need_question, (great, 0, 0))
        self.refused(BadQuestion, {"place": (2,)}, need_question, (great, None, 0))
        self.refused(BadQuestion, {"place": (2, 0)}, need_question, (great, None, (0,)))


class Rows(Case):
    def test_sizes(self):
        self.assertEqual(sizes(asked(EMPTY)), ())
        self.assertEqual(sizes(asked(EXAMPLE)), (2,))
        self.assertEqual(sizes(asked(RICH)), (14, 6, 2, 1, 1, 2, 2, 2, 2))
        self.assertEqual(sizes(ASKED), (14, 6, 2, 1, 2, 2, 2, 2))
        self.unchangeable(sizes(ASKED))
        great = book((10, 10), ((0, ()),) * 10, (), (), (task(features=()),))
        self.assertEqual(sizes(asked(great)), (200,))

    def wrong_rows(self, question, rows):
        for row in rows:
            for function in (plan_of, row_moves, row_price):
                self.refused(BadParameter, {"value": row}, function, question, row)

    def test_wrong_rows(self):
        right = (0,) * 8
        rows = NO_TUPLES + (None, (), right[:7], right + (0,), [0] * 8)
        for at, many in enumerate(sizes(ASKED)):
            rows += tuple(changed(right, (at,), value) for value in NO_INTEGERS + (None, -1, many, 10 ** 5000))
        self.wrong_rows(ASKED, rows)
        # the one value of a task without spots
        self.wrong_rows(asked(RICH), (changed((0,) * 9, (4,), 1), (0,) * 8))

    def test_plan_of(self):
        self.assertEqual(plan_of(asked(EMPTY), ()), ())
        self.assertEqual(plan_of(asked(EXAMPLE), (1,)), ((1, 0, 0),))
        row = (4, 3, 1, 0, 1, 0, 1, 1)
        self.assertEqual(plan_of(ASKED, row), ((1, 2, 0), (1, 0, 0), (4, None, None), (0, None, None)))
        self.unchangeable(plan_of(ASKED, row))

    def test_no_plan_without_a_spot(self):
        self.refused(NoRow, {}, plan_of, asked(RICH), (0,) * 9)

    def test_row_of(self):
        self.assertEqual([rule[1] for rule in MEETABLE[5]], [None, 3, 10 ** 6, None, 1, 2, None])
        plan = ((1, 2, 0), (1, 0, 0), (4, None, None), (0, None, None))
        self.assertEqual(rules_broken(MEETABLE, plan), (4,))
        self.assertEqual(row_of(ASKED, plan), (4, 3, 1, 0, 0, 0, 1, 0))
        self.unchangeable(row_of(ASKED, plan))
        plan = ((0, 0, 0), (0, 0, 0), (2, None, None), (0, None, None))
        self.assertEqual(rules_broken(MEETABLE, plan), ())
        self.assertEqual(row_of(ASKED, plan), (0,) * 8)

    def test_row_of_prices(self):
        never, always = ("least", (), ANY, 1), ("least", (), ANY, 0)
        rules = ((never, None), (never, 5), (always, 6), (always, None), (never, 7))
        question = asked(changed(EMPTY, (5,), rules))
        self.assertEqual(sizes(question), (2, 2, 2))
        self.assertEqual(row_of(question, ()), (1, 0, 1))
        self.assertEqual(row_price(question, (1, 0, 1)), 12)
        self.assertEqual(row_price(question, (1, 1, 0)), 11)
        self.assertEqual(row_price(question, (0, 0, 0)), 0)
        self.assertEqual(row_moves(question, (1, 1, 1)), 0)

    def test_row_of_refuses_plans(self):
        self.refused(BadPlan, {"place": ()}, row_of, ASKED, None)
        self.refused(BadPlan, {"place": ()}, row_of, ASKED, ((0, 0, 0),))
        self.refused(BadPlan, {"place": (1,)}, row_of, ASKED, ((0, 0, 0), (False, 0, 0), None, None))
        self.refused(BadPlan, {"place": (4,)}, row_of, asked(RICH), (
            (0, 0, 0), (0, 0, 0), (2, None, None), (0, None, None), (0, None, None)))

    def test_moves(self):
        # OLD has the spot 1 of the task 0, the spot 1 of the task 2 and none of the others
        for row, moves in (
            ((1, 0, 1, 0, 0, 0, 0, 0), 0), ((0, 0, 1, 0, 0, 0, 0, 0), 1), ((1, 5, 0, 0, 1, 1, 1, 1), 1),
            ((2, 0, 0, 0, 0, 0, 0, 0), 2),
        ):
            self.assertEqual(row_moves(ASKED, row), moves)
        self.assertEqual(row_moves(asked(MEETABLE), (0,) * 8), 0)

    def test_tasks_without_a_spot_do_not_move(self):
        old = (None, None, None, None, (0, None, None))
        self.assertEqual(row_moves((RICH, old, ()), (0,) * 9), 0)
        self.assertEqual(row_price(asked(RICH), (0,) * 9), 5)
        self.assertEqual(row_price(asked(RICH), (0, 0, 1, 0, 0, 1, 1, 0, 1)), 5 + 10 ** 6 + 3 + 10 ** 6 + 2)
        priced = book(tasks=(task(1, (), (), (), None, ((0, 9),)),))
        self.assertEqual(row_price(asked(priced), (0,)), 0)

    def test_fixed_counts_for_nothing_here(self):
        self.assertEqual(sizes(ASKED), sizes(asked(MEETABLE)))
        self.assertEqual(plan_of(ASKED, (5,) + (0,) * 7)[0], spots_of(MEETABLE, 0)[5])

    def test_by_chance(self):
        maker = Maker(31)
        for _ in range(200):
            a_book = maker.meetable_book()
            old = maker.chance.choice((None, maker.plan(a_book), tuple(
                maker.chance.choice((None, spot, (83, None, 29))) for spot in maker.plan(a_book))))
            question = (a_book, old, ())
            plan = maker.plan(a_book)
            row = row_of(question, plan)
            self.assertEqual(plan_of(question, row), plan)
            self.assertEqual(row[:len(plan)], row_of_plan(a_book, plan))
            self.assertEqual(row_moves(question, row), len(moves_of(a_book, old, plan)))
            self.assertEqual(row_price(question, row), price_of(a_book, plan))
            priced = [at for at, rule in enumerate(a_book[5]) if rule[1] is not None]
            broken = rules_broken(a_book, plan)
            self.assertEqual(row[len(plan):], tuple(int(at in broken) for at in priced))

    def test_all_rows(self):
        tasks = (task(1, None, (), (), None, ((0, 4), (1, 2))), task(2))
        rules = ((("alike", 0, 1, "start"), 3), (("least", (), ANY, 0), None))
        question = (book((3,), tasks=tasks, rules=rules), ((1, None, None), (2, None, None)), ())
        self.assertEqual(sizes(question), (3, 2, 2))
        for row in all_rows(question):
            plan = plan_of(question, row)
            self.assertEqual(plan, tuple((value, None, None) for value in row[:2]))
            self.assertEqual(row_moves(question, row), int(row[0] != 1))
            self.assertEqual(row_price(question, row), (4, 2, 0)[row[0]] + 3 * row[2])
            self.assertEqual(row_of(question, plan), row[:2] + (int(row[0] != row[1]),))


if __name__ == "__main__":
    unittest.main()
