"""[33], [4], [6], [29]: what the best plan beside an old one is, which tasks move, and old plans carried over."""

import itertools
import unittest

from besthours.best import best
from besthours.book import row_of_plan, spots_of
from besthours.changes import carried, changed, moved_tasks
from besthours.checking import is_best_paper, is_refutation
from besthours.choices import row_of, sizes
from besthours.errors import BadBook, BadParameter, BadPlan, BadQuestion, TooGreat
from besthours.meaning import keeps, moves_of, price_of
from samples import Case, Crowd, EMPTY, MEETABLE, NO_TUPLES, ODD, Odd, book, changed as bent, task
from test_best import all_plans

FREE = task()
GROUPED = task(1, None, (), (0,))
# more than 40,000 sums
GREAT = ((12,) * 7, (), (), (0,), (FREE,) * 40, ((("close", ("group", 0), tuple(range(40))), None),))


def at(*hours):
    return tuple(None if hour is None else (hour, None, None) for hour in hours)


def moves_by_hand(a_book, old, plan):
    """The tasks whose item of the old plan is a spot of theirs and another one than the plan's."""
    return tuple(
        number for number, item in enumerate(old)
        if item is not None and item in spots_of(a_book, number) and item != plan[number])


def best_by_hand(a_book, old):
    """(MOVES, PRICE, ROW, PLAN) of the best plan beside an old one, all tried; None without one."""
    found = [
        (len(moves_by_hand(a_book, old, plan)), price_of(a_book, plan), row_of_plan(a_book, plan), plan)
        for plan in all_plans(a_book) if keeps(a_book, plan)
    ]
    return min(found, default=None)


class Changed(Case):
    def judge(self, a_book, old):
        """The answer, judged by all plans."""
        found = changed(a_book, old)
        self.unchangeable(found)
        wanted = best_by_hand(a_book, old)
        question = (a_book, old, ())
        if wanted is None:
            self.assertEqual((found[0], len(found)), ("none", 2))
            self.assertIs(is_refutation(question, (), found[1]), True)
            return found
        moves, price, row, plan = wanted
        self.assertEqual(len(found), 5)
        self.assertEqual(found[:4], ("plan", plan, moves_by_hand(a_book, old, plan), price))
        self.assertEqual(len(found[2]), moves)
        self.assertIs(is_best_paper(question, row_of(question, plan), found[4]), True)
        fewer = found[4][0]
        if moves:
            self.assertIs(is_refutation(question, (("moves", moves - 1),), fewer), True)
        else:
            self.assertEqual(fewer, ())
        return found

    def test_all_plans(self):
        maker = Crowd(331)
        moved = none = 0
        for _ in range(250):
            a_book = maker.small_book(120)
            found = self.judge(a_book, maker.old(a_book))
            none += found[0] == "none"
            moved += found[0] == "plan" and found[2] != ()
        self.assertGreater(none, 40)
        self.assertGreater(moved, 30)

    def test_the_paper_is_of_one_row(self):
        maker = Crowd(332)
        tried = 0
        while tried < 40:
            a_book = maker.small_book(30, 3)
            old = maker.old(a_book)
            found = changed(a_book, old)
            if found[0] == "none":
                continue
            tried += 1
            question = (a_book, old, ())
            row = row_of(question, found[1])
            for other in itertools.product(*(range(many) for many in sizes(question))):
                self.assertIs(is_best_paper(question, other, found[4]), other == row)

    def test_an_old_plan_that_keeps_the_book_stays(self):
        maker = Crowd(333)
        tried = 0
        while tried < 60:
            a_book = maker.small_book(60)
            plans = [plan for plan in all_plans(a_book) if keeps(a_book, plan)]
            if not plans:
                continue
            tried += 1
            # the dearest ones, too
            for old in plans[:3] + sorted(plans, key=lambda plan: price_of(a_book, plan))[-3:]:
                found = changed(a_book, old)
                self.assertEqual(found[:4], ("plan", old, (), price_of(a_book, old)))

    def test_dear_but_without_a_move(self):
        dear = task(1, None, (), (0,), None, ((0, 10 ** 6),))
        rules = ((("least", (0,), ((1,), None, None), 1), 10 ** 6),)
        a_book = book((3,), groups=(0,), tasks=(dear, GROUPED), rules=rules)
        self.assertEqual(self.judge(a_book, at(0, 1))[1:4], (at(0, 1), (), 2 * 10 ** 6))
        self.assertEqual(self.judge(a_book, at(None, 1))[1:4], (at(2, 1), (), 10 ** 6))
        self.assertEqual(self.judge(a_book, at(0, 0))[1:4], (at(1, 0), (0,), 0))

    def test_changed_again_nothing_moves(self):
        maker = Crowd(334)
        tried = 0
        while tried < 60:
            a_book = maker.small_book(120)
            found = changed(a_book, maker.old(a_book))
            if found[0] == "none":
                continue
            tried += 1
            again = changed(a_book, found[1])
            self.assertEqual(again[:4], ("plan", found[1], (), found[3]))

    def test_a_rule_taken_out_put_in_priced(self):
        # what must keep less moves no more
        maker = Crowd(335)
        tried = differ = 0
        while tried < 80:
            a_book = maker.small_book(80, 4)
            rule = (maker.what(a_book), None)
            old = maker.old(a_book)
            place = maker.chance.randint(0, len(a_book[5]))
            moves = []
            for more in ((rule,), ((rule[0], 3),), ((rule[0], 10 ** 6),), ()):
                other = bent(a_book, (5,), a_book[5][:place] + more + a_book[5][place:])
                found = self.judge(other, old)
                moves.append(len(found[2]) if found[0] == "plan" else None)
            if moves[0] is None:
                continue
            tried += 1
            self.assertTrue(all(many <= moves[0] for many in moves[1:]), moves)
            differ += moves[1] < moves[0]
        self.assertGreater(differ, 3)

    def test_the_last_room_is_gone(self):
        one = task(1, (0, 1), (), (), ())
        old = ((0, 0, None), (0, 1, None), (1, 1, None))
        whole = book((2,), ((5, ()), (5, ())), tasks=(one,) * 3)
        self.assertEqual(self.judge(whole, old)[1:3], (old, ()))
        # one room less: the old spots in it are none any more, so nothing can be moved there
        less = bent(whole, (1,), ((5, ()),))
        self.assertEqual(self.judge(less, old)[0], "none")
        less = bent(less, (0,), (3,))
        less = bent(less, (4,), (one, one, task(1, None, (), (), ())))
        self.assertEqual(self.judge(less, old)[1:3], (((0, 0, None), (1, 0, None), (2, 0, None)), ()))
        # the one that stays put could give way, but need not
        dear = task(1, (0, 1), (), (), (), ((0, 10 ** 6),))
        self.assertEqual(self.judge(bent(less, (4, 0), dear), old)[1:4], (
            ((0, 0, None), (1, 0, None), (2, 0, None)), (), 10 ** 6))
        # here somebody must
        less = bent(less, (4, 1), task(1, (0,), (), (), ()))
        self.assertEqual(self.judge(less, old)[1:3], (((1, 0, None), (0, 0, None), (2, 0, None)), (0,)))

    def test_an_hour_less_of_a_person(self):
        one = task(1, None, (0,))
        whole = book((3,), people=((0, 1, 2),), tasks=(one, one))
        old = ((0, None, 0), (2, None, 0))
        self.assertEqual(self.judge(whole, old)[1:3], (old, ()))
        less = bent(whole, (2, 0), (0, 1))
        # the spot at the hour 2 is none any more: that is no move
        self.assertEqual(self.judge(less, old)[1:3], (((0, None, 0), (1, None, 0)), ()))
        self.assertEqual(self.judge(bent(whole, (2, 0), (1,)), old)[0], "none")

    def test_many_tasks_give_way_to_few(self):
        # forty tasks stand; a new one takes the hour of one of them
        tasks = (GROUPED,) * 39 + (task(1, (7,), (), (0,)),)
        a_book = book((12,) * 4, groups=(0,), tasks=tasks)
        old = at(*range(39), None)
        found = changed(a_book, old)
        self.assertEqual(found[1:4], (at(*range(7), 39, *range(8, 39), 7), (7,), 0))
        self.assertIs(is_best_paper((a_book, old, ()), row_of((a_book, old, ()), found[1]), found[4]), True)

    def test_nothing(self):
        self.assertEqual(changed(EMPTY, ()), ("plan", (), (), 0, ((), (), (), ())))

    def test_it_is_what_best_tells(self):
        maker = Crowd(336)
        for _ in range(40):
            a_book = maker.small_book(80)
            old = maker.old(a_book)
            found, other = changed(a_book, old), best((a_book, old, ()))
            self.assertEqual(found[0], other[0])
            if found[0] == "plan":
                self.assertEqual((found[1], len(found[2]), found[3]), other[1:4])


class Moved(Case):
    def test_all_plans(self):
        maker = Crowd(337)
        for _ in range(60):
            a_book = maker.small_book(40)
            old = maker.old(a_book)
            for plan in all_plans(a_book):
                wanted = moves_by_hand(a_book, old, plan)
                self.assertEqual(moved_tasks(a_book, old, plan), wanted)
                self.assertEqual(moves_of(a_book, old, plan), wanted)

    def test_plans_that_keep_nothing(self):
        a_book = book((2,), groups=(0,), tasks=(GROUPED, GROUPED))
        self.assertEqual(moved_tasks(a_book, at(0, 1), at(1, 1)), (0,))
        self.assertEqual(moved_tasks(a_book, at(1, 0), at(0, 1)), (0, 1))
        self.assertEqual(moved_tasks(a_book, at(None, 5), at(0, 1)), ())
        self.assertEqual(moved_tasks(plan=at(0, 1), old=at(0, 0), book=a_book), (1,))


class Carried(Case):
    OLD = ((0, None, None), None, (3, 1, None), (83, 11, 29))

    def test_by_hand(self):
        first, second, third, fourth = self.OLD
        for pairs, wanted in (
            ((0, 1, 2, 3), self.OLD), ((3, 2, 1, 0), (fourth, third, second, first)), ((), ()),
            ((None, 2, None), (None, third, None)), ((1,), (None,)), ((None,) * 40, (None,) * 40),
            ((2, None, None, 0, None, 3), (third, None, None, first, None, fourth)),
        ):
            self.assertEqual(carried(self.OLD, pairs), wanted)
            self.unchangeable(carried(old=self.OLD, pairs=pairs))
        self.assertEqual(carried((), ()), ())
        self.assertEqual(carried((), (None,)), (None,))
        self.assertEqual(carried((None,) * 40, tuple(range(39, -1, -1))), (None,) * 40)

    def test_tasks_in_another_order_new_ones_gone_ones(self):
        maker = Crowd(338)
        tried = 0
        while tried < 60:
            a_book = bent(maker.small_book(60), (5,), ())
            found = changed(a_book, (None,) * len(a_book[4]))
            if found[0] == "none":
                continue
            tried += 1
            old, many = found[1], len(a_book[4])
            order = list(range(many))
            maker.chance.shuffle(order)
            gone = order[:maker.chance.randint(0, many)]
            pairs = tuple(number for number in order if number not in gone)
            other = bent(a_book, (4,), tuple(a_book[4][number] for number in pairs))
            standing = carried(old, pairs)
            self.assertEqual(standing, tuple(old[number] for number in pairs))
            # what is left stands where it stood
            self.assertEqual(changed(other, standing)[:4], (
                "plan", standing, (), sum(dict(one[5]).get(spot[0], 0) for one, spot in zip(other[4], standing))))
            # new ones come beside it, if they can
            more = bent(a_book, (4,), other[4] + (task(1, None, (), (), None, ()),))
            found = changed(more, carried(old, pairs + (None,)))
            self.assertEqual((found[1][:-1], found[2]), (standing, ()))

    def test_wrong_old(self):
        for old in NO_TUPLES + (None, (None,) * 41):
            self.refused(BadPlan, {"place": ()}, carried, old, ())
            self.refused(BadPlan, {"place": ()}, carried, old, None)
        wrong = NO_TUPLES + (
            (), (0,), (0, None), (0, None, None, None), [0, None, None], (None, None, None), (-1, None, None),
            (84, None, None), (0, 12, None), (0, -1, None), (0, None, 30), (0, None, -1), (True, None, None),
            (0, True, None), (0, None, False), (0.0, None, None), (0, Odd(), None), ((), None, None))
        for item in wrong:
            self.refused(BadPlan, {"place": (0,)}, carried, (item,), (None,))
            self.refused(BadPlan, {"place": (1,)}, carried, ((0, 0, 0), item, ()), ())
            self.refused(BadPlan, {"place": (2,)}, carried, (None, None, item), True)

    def test_wrong_pairs(self):
        wrong = NO_TUPLES + (
            None, (4,), (-1,), (0, 0), (None, 3, 1, 3), (True,), (0, False), (1.0,), ("0",), (Odd(),), ((0,),),
            (10 ** 5000,), (None,) * 41, [0])
        for pairs in wrong:
            self.refused(BadParameter, {"value": pairs}, carried, self.OLD, pairs)
        self.refused(BadParameter, {"value": (0,)}, carried, (), (0,))


class Wrong(Case):
    def test_books(self):
        for function, more in ((changed, ()), (moved_tasks, (None,))):
            for wrong in NO_TUPLES + (None, ()):
                self.refused(BadBook, {"place": ()}, function, wrong, None, *more)
            self.refused(BadBook, {"place": (0,)}, function, bent(EMPTY, (0,), (True,)), None, *more)
            self.refused(BadBook, {"place": (5, 0)}, function, bent(EMPTY, (5,), (0,)), 0, *more)
            full = book((12,) * 7, ((0, ()),) * 12, tasks=(task(features=()),))
            self.refused(TooGreat, {"most": 200}, function, full, None, *more)

    def test_old_plans(self):
        a_book = book((3,), groups=(0,), tasks=(FREE, GROUPED))
        for function, more in ((changed, ()), (moved_tasks, (None,)), (moved_tasks, (at(0, 1),))):
            self.refused(BadParameter, {"value": None}, function, a_book, None, *more)
            for wrong in NO_TUPLES + ((), at(0), at(0, 0, 0), (0, 1), (None, (0, None)), [None, None]):
                self.refused(BadQuestion, {"place": (1,)}, function, a_book, wrong, *more)
            for item in NO_TUPLES + ((), (84, None, None), (0, 12, None), (0, None, 30), (0, None, True), Odd()):
                self.refused(BadQuestion, {"place": (1,)}, function, a_book, (None, item), *more)
            self.refused(BadParameter, {"value": None}, function, GREAT, None, *more)
            self.refused(BadQuestion, {"place": (1,)}, function, GREAT, (), *more)
            self.refused(TooGreat, {"most": 40000}, function, GREAT, (None,) * 40, *more)

    def test_plans(self):
        a_book = book((3,), groups=(0,), tasks=(FREE, GROUPED))
        for plan in NO_TUPLES + (None, (), at(0), at(0, 1, 2)):
            self.refused(BadPlan, {"place": ()}, moved_tasks, a_book, at(0, 1), plan)
        for number, spot in itertools.product((0, 1), ODD + (None, (), (3, None, None), (True, None, None))):
            wrong = bent(at(0, 1), (number,), spot)
            self.refused(BadPlan, {"place": (number,)}, moved_tasks, a_book, at(None, None), wrong)
        self.refused(BadPlan, {"place": (0,)}, moved_tasks, MEETABLE, (None,) * 4, (None,) * 4)


if __name__ == "__main__":
    unittest.main()
