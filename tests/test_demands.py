"""[5], [6], [18], [19]: what the parts of a question ask as sums, and givens."""

import itertools
import unittest

from besthours.choices import plan_of, row_moves, row_of, row_price, sizes
from besthours.demands import demands, first_broken, givens, keeps_all, parts
from besthours.errors import BadBook, BadParameter, BadQuestion, NoRow, TooGreat
from besthours.meaning import broken, keeps, moves_of, price_of, rule_kept
from besthours.sums import kept_by, need_sum
from samples import Case, EMPTY, MEETABLE, Maker, NO_INTEGERS, NO_TUPLES, Odd, RICH, book, changed, task

ANY = (None, None, None)
GREAT = 10 ** 5000
FREE = task()
PAIR = ((2,), (), ((0, 1),), (), ((1, None, (0,), (), None, ()), (1, None, (0,), (), None, ((0, 5),))), ())
OLD = ((0, 2, 0), None, (4, None, None), (83, 11, 29))


def asked(a_book, old=None, fixed=()):
    return (a_book, old, fixed)


def all_rows(question):
    return itertools.product(*(range(many) for many in sizes(question)))


def ruled(rules, days=(3,), tasks=(FREE, FREE), **more):
    """The demands of the rules of a book, as (NUMBER, SUM)."""
    told = demands(asked(book(days, tasks=tasks, rules=rules, **more)))
    return tuple((part[1], one) for part, one in told if part[0] == "rule")


class Examples(Case):
    def test_example(self):
        self.assertEqual(demands(asked(PAIR)), (
            (("always", "person", 0), (((0, (0, 1)), (1, (0, 1))), 1)),
            (("always", "person", 0), (((0, (1, 0)), (1, (1, 0))), 1)),
        ))
        self.assertEqual(givens(asked(PAIR), (("price", 4),)), ((((1, (0, 5)),), 1),))
        self.assertEqual(parts(asked(PAIR)), (("always", "person", 0),))

    def test_nothing_asked(self):
        for function in (demands, parts):
            self.assertEqual(function(asked(EMPTY)), ())
        self.assertIs(keeps_all(asked(EMPTY), ()), True)
        self.assertEqual(demands(asked(book(tasks=(FREE, FREE)))), ())

    def test_order_and_parts(self):
        a_book = book(
            (2,), ((0, ()), (0, ())), ((0, 1),) * 2, (0, 0),
            (task(1, None, (0, 1), (1,), ()), task(1, None, (1,), (1,), (), ()), task(1, (), (0,), (0, 1))),
            ((("least", (0,), ((0,), None, None), 1), 4), (("most", (0, 1), ((1,), None, None), 1), None)),
        )
        question = asked(a_book, None, ((0, (0, 1)), (1, ()), (2, ())))
        told = demands(question)
        self.assertEqual([part for part, _ in told], [
            ("task", 2), ("always", "room", 0), ("always", "room", 0), ("always", "room", 1), ("always", "room", 1),
            ("always", "person", 1), ("always", "person", 1), ("always", "group", 1), ("always", "group", 1),
            ("rule", 0), ("rule", 1), ("fixed", 0), ("fixed", 1), ("fixed", 2),
        ])
        self.assertEqual(parts(question), (
            ("task", 2), ("always", "room", 0), ("always", "room", 1), ("always", "person", 1), ("always", "group", 1),
            ("rule", 0), ("rule", 1), ("fixed", 0), ("fixed", 1), ("fixed", 2),
        ))
        self.assertEqual(told[0][1], ((), 1))
        # spots of the task 0: hour, room, person ascending; the task 1 has the person 1 alone
        self.assertEqual(told[1][1], (((0, (0, 0, 1, 1, 1, 1, 1, 1)), (1, (0, 1, 1, 1))), 1))
        self.assertEqual(told[6][1], (((0, (1, 1, 1, 1, 1, 0, 1, 0)), (1, (1, 1, 0, 0))), 1))
        self.assertEqual(told[8][1], (((0, (1, 1, 1, 1, 0, 0, 0, 0)), (1, (1, 1, 0, 0))), 1))
        self.assertEqual(told[9][1], (((0, (1, 1, 1, 1, 0, 0, 0, 0)), (3, (0, 1))), 1))
        self.assertEqual(told[10][1], (((0, (1, 1, 1, 1, 0, 0, 0, 0)), (1, (1, 1, 0, 0))), 1))
        self.assertEqual(told[11][1], (((0, (1, 1, 0, 0, 0, 0, 0, 0)),), 1))
        self.assertEqual(told[12][1], ((), 1))
        self.assertEqual(told[13][1], ((), 1))
        self.unchangeable(told)

    def test_rich(self):
        question = asked(RICH)
        for _, one in demands(question):
            self.assertEqual(need_sum(sizes(question), one), one)
            self.assertGreater(one[1], 0)
        self.assertEqual(parts(question)[0], ("task", 4))


class Always(Case):
    def test_long_tasks(self):
        # two hours at 0 or 1 hold the hour 1 wherever they stand
        a_book = book((3,), groups=(0,), tasks=(task(2, None, (), (0,)), task(1, None, (), (0,))))
        self.assertEqual(demands(asked(a_book)), (
            (("always", "group", 0), (((0, (0, 1)), (1, (0, 1, 1))), 1)),
            (("always", "group", 0), (((1, (1, 0, 1)),), 1)),
            (("always", "group", 0), (((0, (1, 0)), (1, (1, 1, 0))), 1)),
        ))

    def test_three_tasks_at_one_hour(self):
        a_book = book((1,), ((0, ()),), tasks=(task(features=()),) * 3)
        # all have one value: at least two of three have to be elsewhere
        self.assertEqual(demands(asked(a_book)), ((("always", "room", 0), ((), 2)),))

    def test_only_tasks_with_such_a_spot_count(self):
        a_book = book((2,), groups=(0, 0), tasks=(
            task(1, (0,), (), (0,)), task(1, (1,), (), (0,)), task(1, (), (), (0, 1)), task(1, None, (), (1,))))
        self.assertEqual(demands(asked(a_book)), ((("task", 2), ((), 1)),))

    def test_the_last_of_many(self):
        for word, more in (
            ("room", dict(rooms=((0, ()),) * 3 + ((0, (1,)),), tasks=(task(features=(1,)),) * 2)),
            ("person", dict(people=((0, 1),) * 4, tasks=(task(people=(3,)),) * 2)),
            ("group", dict(groups=(0,) * 4, tasks=(task(groups=(3,)),) * 2)),
        ):
            self.assertEqual(demands(asked(book((2,), **more))), (
                (("always", word, 3), (((0, (0, 1)), (1, (0, 1))), 1)),
                (("always", word, 3), (((0, (1, 0)), (1, (1, 0))), 1)),
            ))

    def test_without_tasks(self):
        self.assertEqual(demands(asked(book((2,), ((0, ()),), ((0,),), (3,)))), ())


class Rules(Case):
    def one(self, what, wanted, **more):
        """The sums of the rule, without a price and with one."""
        self.assertEqual(ruled(((what, None),), **more), tuple((0, one) for one in wanted))
        many = len(more.get("tasks", (FREE, FREE)))
        always = (("most", (), ANY, 0), 7)
        with_price = tuple((1, (terms + ((many + 1, (0, bound)),), bound)) for terms, bound in wanted)
        self.assertEqual(ruled((always, (what, 3)), **more), with_price)

    def test_least(self):
        at = ((0,), None, None)
        self.one(("least", (0, 1), at, 1), [(((0, (1, 0, 0)), (1, (1, 0, 0))), 1)])
        self.one(("least", (0, 1), at, 2), [(((0, (1, 0, 0)), (1, (1, 0, 0))), 2)])
        self.one(("least", (0, 1), at, 40), [(((0, (1, 0, 0)), (1, (1, 0, 0))), 40)])
        self.one(("least", (0, 1), at, 0), [])
        self.one(("least", (), at, 1), [((), 1)])
        self.one(("least", (0, 1), ANY, 2), [])
        self.one(("least", (0, 1), ANY, 3), [((), 1)])
        self.one(("least", (0, 1), ((), None, None), 1), [((), 1)])
        # no room is in no SET
        self.one(("least", (0, 1), (None, (0,), None), 1), [((), 1)], rooms=((0, ()),))
        # a task without a spot counts for nothing
        self.one(("least", (0, 1), at, 1), [(((1, (1, 0, 0)),), 1)], tasks=(task(1, ()), FREE))

    def test_most(self):
        at = ((0,), None, None)
        self.one(("most", (0, 1), at, 1), [(((0, (0, 1, 1)), (1, (0, 1, 1))), 1)])
        self.one(("most", (0, 1), at, 0), [(((0, (0, 1, 1)), (1, (0, 1, 1))), 2)])
        self.one(("most", (0, 1), at, 2), [])
        self.one(("most", (0, 1), at, 40), [])
        self.one(("most", (1,), ((0, 1), None, None), 0), [(((1, (0, 0, 1)),), 1)])
        self.one(("most", (0, 1), ANY, 0), [((), 2)])
        # a task without a spot is among the others
        self.one(("most", (0, 1), at, 0), [(((1, (0, 1, 1)),), 1)], tasks=(task(1, ()), FREE))
        self.one(("most", (0, 1), at, 1), [], tasks=(task(1, ()), FREE))

    def test_load(self):
        tasks = (FREE, task(2))
        at = ((0,), None, None)
        self.one(("load", (0, 1), at, 2, 2), [
            (((0, (1, 0, 0)), (1, (2, 0))), 2), (((0, (0, 1, 1)), (1, (0, 2))), 1)], tasks=tasks)
        self.one(("load", (0, 1), at, 0, 2), [(((0, (0, 1, 1)), (1, (0, 2))), 1)], tasks=tasks)
        self.one(("load", (0, 1), at, 3, 160), [(((0, (1, 0, 0)), (1, (2, 0))), 3)], tasks=tasks)
        self.one(("load", (0, 1), ANY, 4, 4), [((), 1)], tasks=tasks)
        self.one(("load", (0, 1), ANY, 3, 3), [], tasks=tasks)
        self.one(("load", (0, 1), ANY, 0, 2), [((), 1)], tasks=tasks)
        # a task without a spot holds nothing
        self.one(("load", (0, 1), at, 1, 1), [(((0, (1, 0, 0)),), 1)], tasks=(FREE, task(2, ())))
        self.one(("load", (1,), at, 1, 1), [((), 1)], tasks=(FREE, task(2, ())))

    def test_before(self):
        self.one(("before", 0, 1, 1), [
            (((1, (0, 1, 1)),), 1), (((0, (1, 0, 0)), (1, (0, 0, 1))), 1), (((0, (1, 1, 0)),), 1)])
        self.one(("before", 1, 0, 0), [
            (((0, (0, 1, 1)), (1, (1, 0, 0))), 1), (((0, (0, 0, 1)), (1, (1, 1, 0))), 1)])
        self.one(("before", 0, 1, 80), [(((1, (0, 1, 1)),), 1), (((1, (0, 0, 1)),), 1), ((), 1)])
        # the last hour of two, and unlike hours of the other one alone
        self.one(("before", 0, 1, 1), [(((1, (0, 1)),), 1), (((0, (1, 0)),), 1)],
                 tasks=(task(2), task(1, (0, 2))))
        self.one(("before", 0, 1, 1), [(((0, (1, 0, 0)),), 1)], tasks=(FREE, task(1, (1,))))
        # without a spot: no hours of T, no weight of S
        self.one(("before", 0, 1, 1), [], tasks=(FREE, task(1, ())))
        self.one(("before", 0, 1, 1), [(((1, (0, 1, 1)),), 1), (((1, (0, 0, 1)),), 1), ((), 1)],
                 tasks=(task(1, ()), FREE))

    def test_before_unlike_hours(self):
        rooms = ((0, ()), (0, ()))
        self.one(("before", 0, 1, 1), [(((1, (0, 0, 1, 1)),), 1), (((0, (1, 0)),), 1)],
                 days=(2,), rooms=rooms, tasks=(FREE, task(features=())))

    def test_alike_start_and_day(self):
        self.one(("alike", 0, 1, "start"), [
            (((0, (0, 1, 1)), (1, (1, 0, 0))), 1), (((0, (1, 0, 1)), (1, (0, 1, 0))), 1),
            (((0, (1, 1, 0)), (1, (0, 0, 1))), 1)])
        self.one(("alike", 1, 0, "day"), [
            (((0, (1, 0, 0)), (1, (0, 1, 1))), 1), (((0, (0, 1, 1)), (1, (1, 0, 0))), 1)], days=(1, 2))
        self.one(("alike", 0, 1, "day"), [])
        # hours of S alone
        self.one(("alike", 1, 0, "start"), [(((0, (0, 1, 0)),), 1)], tasks=(FREE, task(1, (1,))))
        self.one(("alike", 0, 1, "start"), [(((0, (0, 1, 1)),), 1), (((0, (1, 1, 0)),), 1)],
                 tasks=(FREE, task(1, (1,))))

    def test_alike_none_first(self):
        rooms, people = ((0, ()), (0, ())), ((0,), (0,))
        both = dict(days=(1,), rooms=rooms, people=people)
        self.one(("alike", 0, 1, "room"), [], **both)
        self.one(("alike", 0, 1, "person"), [], **both)
        self.one(("alike", 0, 1, "room"), [((), 1)], tasks=(FREE, task(features=())), **both)
        self.one(("alike", 1, 0, "room"), [(((1, (0, 1)),), 1), (((1, (1, 0)),), 1)],
                 tasks=(FREE, task(features=())), **both)
        self.one(("alike", 0, 1, "room"), [(((0, (0, 1)), (1, (1, 0))), 1), (((0, (1, 0)), (1, (0, 1))), 1)],
                 tasks=(task(features=()),) * 2, **both)
        self.one(("alike", 0, 1, "person"), [(((0, (0, 1)),), 1)], tasks=(task(people=(0, 1)), task(people=(1,))), **both)

    def test_alike_without_a_spot(self):
        for sort in ("day", "start", "room", "person"):
            self.one(("alike", 1, 0, sort), [], tasks=(FREE, task(1, ())))
            self.one(("unlike", 0, 1, sort), [], tasks=(FREE, task(1, ())))
            self.one(("unlike", 1, 0, sort), [], tasks=(FREE, task(1, ())))
        self.one(("alike", 0, 1, "day"), [((), 1)], tasks=(FREE, task(1, ())))
        self.one(("alike", 0, 1, "start"), [(((0, (0, 1)),), 1), (((0, (1, 0)),), 1)], days=(2,),
                 tasks=(FREE, task(1, ())))

    def test_unlike(self):
        self.one(("unlike", 0, 1, "start"), [
            (((0, (0, 1, 1)), (1, (0, 1, 1))), 1), (((0, (1, 0, 1)), (1, (1, 0, 1))), 1),
            (((0, (1, 1, 0)), (1, (1, 1, 0))), 1)])
        self.one(("unlike", 1, 0, "start"), [(((0, (1, 0, 1)),), 1)], tasks=(FREE, task(1, (1,))))
        self.one(("unlike", 0, 1, "day"), [((), 1)])
        self.one(("unlike", 0, 1, "room"), [((), 1)])
        self.one(("unlike", 0, 1, "person"), [((), 1)])
        self.one(("unlike", 0, 1, "person"), [(((0, (1, 0)),), 1)], days=(1,), people=((0,), (0,)),
                 tasks=(task(people=(0, 1)), task(people=(1,))))
        self.one(("unlike", 0, 1, "room"), [], rooms=((0, ()),), tasks=(FREE, task(features=())))

    def test_close_of_a_group(self):
        group = dict(groups=(0,), tasks=(task(1, None, (), (0,)), FREE, task(1, None, (), (0,))))
        # the task 1 has not the group: it can't be at the hour 1 for it
        self.one(("close", ("group", 0), (0, 1, 2)), [
            (((0, (0, 1, 1)), (2, (1, 1, 0))), 1), (((0, (1, 1, 0)), (2, (0, 1, 1))), 1)], **group)
        self.one(("close", ("group", 0), (0, 1)), [], **group)
        self.one(("close", ("group", 0), (0,)), [], **group)
        self.one(("close", ("group", 0), ()), [], **group)
        for days in ((2,), (1, 2, 1), (2, 2)):
            self.one(("close", ("group", 0), (0, 1, 2)), [], days=days, **group)

    def test_close_with_another_one_between(self):
        tasks = (task(1, (0, 3), (), (0,)), task(1, (1, 2), (), (0,)), task(1, (3,), (), (0,)))
        told = ruled(((("close", ("group", 0), (0, 1, 2)), None),), days=(4,), groups=(0,), tasks=tasks)
        self.assertEqual(told, (
            # the hour 1: the task 0 ahead of it, the task 1 behind it: the task 2 is never there
            (0, (((0, (0, 1)), (1, (1, 0))), 1)),
            # 0 and 2 without 1 between them
            (0, (((0, (0, 1)), (1, (1, 0))), 1)),
            # the hour 2 with the task 1 ahead of it: 0 behind it, then 2
            (0, (((0, (1, 0)), (1, (0, 1))), 1)),
            (0, (((1, (0, 1)),), 1)),
        ))

    def test_close_of_a_person(self):
        tasks = (task(1, (0,), (0, 1)), task(1, (2,), (0,)))
        people = ((0, 1, 2), (0, 1, 2))
        self.one(("close", ("person", 0), (0, 1)), [(((0, (0, 1)),), 1)], people=people, tasks=tasks)
        self.one(("close", ("person", 1), (0, 1)), [], people=people, tasks=tasks)

    def test_close_of_two_hours(self):
        # four hours, two tasks of two: one at 0 and one at 2 are close, none is at 1 and another one behind it
        tasks = (task(2, None, (), (0,)), task(1, None, (), (0,)))
        told = ruled(((("close", ("group", 0), (0, 1)), None),), days=(4,), groups=(0,), tasks=tasks)
        self.assertEqual(told, (
            # the hour 1: the task 1 at 0, the task 0 at 2
            (0, (((0, (1, 1, 0)), (1, (0, 1, 1, 1))), 1)),
            # the hour 2: the task 0 at 0, the task 1 at 3; the task 1 at 1 has the task 0 at 2
            (0, (((0, (0, 1, 1)), (1, (1, 1, 1, 0))), 1)),
        ))

    def test_close_without_a_spot(self):
        tasks = (task(1, (0,), (), (0,)), task(1, (), (), (0,)), task(1, (2,), (), (0,)))
        told = ruled(((("close", ("group", 0), (0, 1, 2)), None),), groups=(0,), tasks=tasks)
        self.assertEqual(told, ((0, ((), 1)),))

    def test_prices_in_order(self):
        at = ((0,), None, None)
        rules = (
            (("least", (0,), at, 1), 5), (("load", (0, 1), at, 2, 2), None), (("most", (0,), at, 0), 6),
            (("unlike", 0, 1, "day"), 8),
        )
        self.assertEqual(ruled(rules), (
            (0, (((0, (1, 0, 0)), (2, (0, 1))), 1)),
            (1, (((0, (1, 0, 0)), (1, (1, 0, 0))), 2)),
            (2, (((0, (0, 1, 1)), (3, (0, 1))), 1)),
            (3, (((4, (0, 1)),), 1)),
        ))


class Fixed(Case):
    def test_fixed(self):
        a_book = book((3,), tasks=(FREE, FREE, FREE, task(1, ())))
        question = asked(a_book, None, ((0, (0, 2)), (1, (0, 1, 2)), (2, ()), (3, ())))
        self.assertEqual(demands(question), (
            (("task", 3), ((), 1)),
            (("fixed", 0), (((0, (1, 0, 1)),), 1)),
            (("fixed", 2), ((), 1)),
            (("fixed", 3), ((), 1)),
        ))


class Givens(Case):
    def test_moves(self):
        a_book = book((3,), tasks=(FREE, FREE, FREE, task(1, ()), task(1, (1,))))
        at = ((0, None, None), (2, None, None), (0, 0, None), (0, None, None), (1, None, None))
        question = asked(a_book, at)
        terms = ((0, (1, 0, 0)), (1, (0, 0, 1)))
        # the tasks 0, 1 and 4 have a spot of theirs; 4 has no other one
        for most, wanted in (
            (0, (terms, 2)), (1, (terms, 1)), (2, ((), 0)), (GREAT, ((), 0)), (-1, (terms, 3)),
            (-GREAT, (terms, GREAT + 2)),
        ):
            self.assertEqual(givens(question, (("moves", most),)), (wanted,))
        self.assertEqual(givens(asked(a_book), (("moves", 0), ("moves", -1))), (((), 0), ((), 1)))
        self.assertEqual(givens(asked(a_book, (None,) * 5), (("moves", -2),)), (((), 2),))

    def test_price(self):
        tasks = (task(prices=((0, 5), (2, 7))), task(1, (1,), prices=((1, 4),)), FREE, task(1, (), prices=((0, 9),)))
        rules = ((("least", (), ANY, 1), None), (("least", (), ANY, 1), 10), (("least", (), ANY, 0), 3))
        question = asked(book((3,), tasks=tasks, rules=rules))
        terms = ((0, (2, 7, 0)), (4, (10, 0)), (5, (3, 0)))
        for most, wanted in (
            (4, (terms, 20)), (0, (terms, 24)), (23, (terms, 1)), (24, ((), 0)), (GREAT, ((), 0)),
            (-1, (terms, 25)), (-GREAT, (terms, GREAT + 24)),
        ):
            self.assertEqual(givens(question, (("price", most),)), (wanted,))
        self.assertEqual(givens(asked(EMPTY), (("price", -1), ("price", 0))), (((), 1), ((), 0)))

    def test_order(self):
        question = asked(PAIR, ((0, None, 0), None))
        one = (((0, (1, 0)),), 1)
        self.assertEqual(givens(question, ()), ())
        self.assertEqual(givens(question, (("price", 4), ("moves", 0), ("moves", 1), ("price", 4))), (
            (((1, (0, 5)),), 1), one, ((), 0), (((1, (0, 5)),), 1)))

    def test_wrong(self):
        wrong = NO_TUPLES + (
            None, (0,), ("moves", 0), (("moves",),), (("moves", 0, 0),), [("moves", 0)], (["moves", 0],), (("move", 0),),
            (("moves", None),), ((None, 0),), (("", 0),), ((b"moves", 0),), ((Odd(), 0),), (("price", 0), None),
            (("price", 1), ("prices", 1)),
        )
        wrong += tuple((("moves", value),) for value in NO_INTEGERS) + tuple(((value, 0),) for value in NO_INTEGERS)
        wrong += tuple((("price", 3), value) for value in NO_TUPLES)
        for given in wrong:
            self.refused(BadParameter, {"value": given}, givens, asked(PAIR), given)


class Meaning(Case):
    """The facts of [19], all plans of small books tried."""

    def check(self, question, plan):
        a_book, old, fixed = question
        row = row_of(question, plan)
        told = demands(question)
        let = all(row[number] in numbers for number, numbers in fixed)
        self.assertEqual(keeps_all(question, row), keeps(a_book, plan) and let)
        kept = {}
        many = sizes(question)
        for part, one in told:
            kept[part] = kept.get(part, True) and kept_by(many, one, row)
        always = all(kept[part] for part in kept if part[0] == "always")
        wrong = broken(a_book, plan)
        self.assertEqual(always, wrong is None or wrong[0] == "rule")
        for number, rule in enumerate(a_book[5]):
            wanted = rule[1] is not None or rule_kept(a_book, rule, plan)
            self.assertEqual(kept.get(("rule", number), True), wanted, rule)
        for number, numbers in fixed:
            self.assertEqual(kept.get(("fixed", number), True), row[number] in numbers)
        if keeps_all(question, row):
            self.refused(NoRow, {}, first_broken, question, row)
        else:
            first = next(at for at, (_, one) in enumerate(told) if not kept_by(many, one, row))
            self.assertEqual(first_broken(question, row), first)
        moves, price = len(moves_of(a_book, old, plan)), price_of(a_book, plan)
        self.assertEqual((row_moves(question, row), row_price(question, row)), (moves, price))
        given = tuple(
            (word, most) for word, many in (("moves", moves), ("price", price))
            for most in (many - 1, many, many + 1, -1, -GREAT, GREAT, 0))
        for (word, most), one in zip(given, givens(question, given)):
            self.assertEqual(kept_by(many, one, row), (moves if word == "moves" else price) <= most)

    def test_by_chance(self):
        maker = Maker(41)
        seen = set()
        for _ in range(250):
            a_book = maker.meetable_book()
            many = sizes(asked(a_book))[:len(a_book[4])]
            old = maker.chance.choice((None, tuple(
                maker.chance.choice((None, spot, (83, None, 29))) for spot in maker.plan(a_book))))
            fixed = tuple(
                (number, maker.set_of(many[number], 0.7)) for number in range(len(many)) if maker.chance.random() < 0.3)
            question = asked(a_book, old, fixed)
            for _ in range(8):
                self.check(question, maker.plan(a_book))
            seen |= {rule[0][0] for rule in a_book[5]}
        self.assertEqual(len(seen), 7)

    def test_all_plans_and_rows(self):
        maker = Maker(42)
        tried = 0
        while tried < 60:
            a_book = maker.meetable_book()
            question = asked(a_book, maker.chance.choice((None, maker.plan(a_book))))
            many = 1
            for size in sizes(question):
                many *= size
            if many > 500 or not a_book[5]:
                continue
            tried += 1
            for row in all_rows(question):
                plan = plan_of(question, row)
                best = row_of(question, plan)
                if row == best:
                    self.check(question, plan)
                # a rule with a price is kept by its sums where it is broken, always, and else just if the plan keeps it
                tasks = len(a_book[4])
                honest = all(mine >= true for mine, true in zip(row[tasks:], best[tasks:]))
                self.assertEqual(keeps_all(question, row), honest and keeps(a_book, plan))
                if keeps_all(question, row):
                    self.assertGreaterEqual(row_price(question, row), row_price(question, best))


class Wrong(Case):
    def test_rows(self):
        question = asked(MEETABLE, OLD)
        right = (0,) * 8
        rows = NO_TUPLES + (None, (), right[:7], right + (0,), [0] * 8)
        for at, many in enumerate(sizes(question)):
            rows += tuple(changed(right, (at,), value) for value in NO_INTEGERS + (None, -1, many, GREAT))
        for row in rows:
            for function in (keeps_all, first_broken):
                self.refused(BadParameter, {"value": row}, function, question, row)

    def test_questions_ahead_of_all_else(self):
        great = ((12,) * 7, (), (), (0,), (task(),) * 40, ((("close", ("group", 0), tuple(range(40))), None),))
        for question, error, attributes in (
            (None, BadQuestion, {"place": ()}), ((EMPTY, None), BadQuestion, {"place": ()}),
            ((None, None, ()), BadBook, {"place": ()}), ((changed(EMPTY, (5,), (0,)), 0, 0), BadBook, {"place": (5, 0)}),
            ((EMPTY, 0, 0), BadQuestion, {"place": (1,)}), ((EMPTY, None, 0), BadQuestion, {"place": (2,)}),
            ((EMPTY, None, (0,)), BadQuestion, {"place": (2, 0)}), ((great, None, ()), TooGreat, {"most": 40000}),
        ):
            self.refused(error, attributes, demands, question)
            self.refused(error, attributes, parts, question)
            for function in (givens, keeps_all, first_broken):
                self.refused(error, attributes, function, question, None)


class Great(Case):
    def test_close_of_many_tasks(self):
        days, tasks = (12,) * 6 + (8,), (task(1, None, (), (0,)),) * 22
        rule = (("close", ("group", 0), tuple(range(22))), None)
        told = demands(asked(book(days, groups=(0,), tasks=tasks, rules=(rule,))))
        inner = 6 * 10 + 6
        self.assertEqual(len(told), 80 + inner * 22 * 21)
        # the last one: the hour ahead of the last one, S the last task, T the one ahead of it
        terms, bound = told[-1][1]
        self.assertEqual((len(terms), bound), (22, 1))
        first, second, other = terms[21][1], terms[20][1], terms[0][1]
        self.assertEqual([hour for hour in range(80) if not first[hour]], [77])
        self.assertEqual([hour for hour in range(80) if not second[hour]], [79])
        self.assertEqual([hour for hour in range(80) if other[hour]], [78])


if __name__ == "__main__":
    unittest.main()
