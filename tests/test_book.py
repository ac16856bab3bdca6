"""[2], [3], [10]: books, with the place of what is wrong, and the spots of tasks."""

import unittest

from besthours.book import need_book, need_plan, plan_of_row, row_of_plan, spots_of
from besthours.errors import BadBook, BadParameter, BadPlan, TooGreat
from samples import (
    Case, EMPTY, EXAMPLE, MEETABLE, Maker, NO_INTEGERS, NO_TUPLES, ODD, RICH, book, changed, spots_by_hand, task,
)

# values that are no SET of integers from 0 to 1
NO_SETS = NO_TUPLES + ((2,), (-1,), (0, 0), (1, 0), (0, 1, 2), (True,), (0, True), (None,), ((0,),), (0.0,))

TWO = book((2,), ((9, ()), (9, ())), ((0,), (1,)), (1, 2), (task(), task()))


class Books(Case):
    def right(self, a_book):
        self.assertEqual(need_book(a_book), a_book)

    def wrong(self, place, a_book):
        self.refused(BadBook, {"place": place}, need_book, a_book)

    def wrong_at(self, place, values, a_book=RICH):
        """Each of the values is refused at its place."""
        for value in values:
            self.wrong(place, changed(a_book, place, value))

    def test_right(self):
        for a_book in (EMPTY, EXAMPLE, RICH, MEETABLE, TWO):
            self.right(a_book)
        self.assertIs(need_book(RICH), RICH)

    def test_right_by_chance(self):
        maker = Maker(1)
        for _ in range(200):
            self.right(maker.book())

    def test_no_book(self):
        for value in NO_TUPLES + (None, (), RICH[:5], RICH + ((),), list(RICH)):
            self.wrong((), value)

    def test_days(self):
        self.wrong_at((0,), NO_TUPLES + (None, (), (0,), (13,), (1,) * 8, (True,), (1, 1.0)))
        self.right(book((1,)))
        self.right(book((12,) * 7))

    def test_things_that_are_no_tuples(self):
        for number in (1, 2, 3, 4, 5):
            self.wrong_at((number,), NO_TUPLES + (None, list(RICH[number])))

    def test_most_things(self):
        for number, many, thing in (
            (1, 12, (0, ())), (2, 30, ()), (3, 30, 0), (4, 40, task()), (5, 40, (("least", (), (None,) * 3, 0), 1)),
        ):
            self.right(changed(EMPTY, (number,), (thing,) * many))
            self.wrong((number,), changed(EMPTY, (number,), (thing,) * (many + 1)))
            # a whole ahead of its parts
            self.wrong((number,), changed(EMPTY, (number,), (None,) * (many + 1)))
            self.wrong((number, 0), changed(EMPTY, (number,), (None,) * many))

    def test_rooms(self):
        for room in ((0, ()), (1000, (0, 7)), (5, tuple(range(8)))):
            self.right(changed(EMPTY, (1,), (room,)))
        no_rooms = NO_TUPLES + (
            None, (), (1,), (1, (), ()), (-1, ()), (1001, ()), (None, ()), (1, None), (1, (8,)), (1, (-1,)),
            (1, (1, 1)), (1, (1, 0)), (1, (True,)), ((), 1),
        )
        no_rooms += tuple((value, ()) for value in NO_INTEGERS) + tuple((1, value) for value in NO_TUPLES)
        for value in no_rooms:
            for index in (0, 2):
                self.wrong((1, index), changed(RICH, (1, index), value))

    def test_people(self):
        self.right(changed(EMPTY, (2,), ((), (0,), (3,), (0, 1, 2, 3))))
        for value in NO_SETS + (None,):
            self.wrong((2, 1), changed(TWO, (2, 1), value))
        self.wrong((2, 0), changed(EMPTY, (2,), ((4,),)))

    def test_groups(self):
        self.right(changed(EMPTY, (3,), (0, 1000)))
        self.wrong_at((3, 1), NO_INTEGERS + (None, -1, 1001, 10 ** 5000))
        self.wrong_at((3, 0), (-1, 1001))

    def test_task_as_a_whole(self):
        self.wrong_at((4, 0), NO_TUPLES + (None, (), task()[:5], task() + ((),), list(task())))

    def task_items(self, index, right, wrong):
        for value in right:
            self.right(changed(TWO, (4, 1, index), value))
        for value in wrong:
            self.wrong((4, 1), changed(TWO, (4, 1, index), value))

    def test_length(self):
        self.task_items(0, (1, 2, 3, 4), NO_INTEGERS + (None, 0, 5, -1, 10 ** 5000))

    def test_starts(self):
        self.task_items(1, (None, (), (0,), (1,), (0, 1)), NO_SETS)

    def test_people_of_tasks(self):
        self.task_items(2, ((), (0,), (1,), (0, 1)), NO_SETS + (None,))

    def test_groups_of_tasks(self):
        self.task_items(3, ((), (0,), (1,), (0, 1)), NO_SETS + (None,))

    def test_features_of_tasks(self):
        wrong = NO_TUPLES + ((8,), (-1,), (0, 0), (1, 0), (True,), (None,))
        self.task_items(4, (None, (), (0,), (7,), tuple(range(8))), wrong)

    def test_prices(self):
        right = ((), ((0, 1),), ((1, 10 ** 6),), ((0, 5), (1, 5)))
        wrong = NO_TUPLES + (
            None, (0, 1), ((0,),), ((0, 1, 1),), ((2, 1),), ((-1, 1),), ((0, 0),), ((0, 10 ** 6 + 1),), ((0, -1),),
            ((0, 1), (0, 2)), ((1, 1), (0, 1)), ((True, 1),), ((0, True),), ((None, 1),), ((0, None),), ([0, 1],),
            ((0, 1), (1, 2), (2, 3)), ((0, 1), None), ((0, 1.0),), ({0: 1},),
        )
        self.task_items(5, right, wrong)

    def test_numbers_are_those_of_the_book(self):
        self.wrong((4, 0), book((2,), (), ((),), (), (task(1, None, (1,)),)))
        self.wrong((4, 0), book((2,), (), (), (), (task(1, None, (0,)),)))
        self.wrong((4, 0), book((2,), (), (), (1,), (task(1, None, (), (1,)),)))
        self.wrong((4, 0), book((2, 1), (), (), (), (task(1, (3,)),)))
        self.right(book((2, 1), (), (), (), (task(1, (2,)),)))

    def test_rules_have_the_place_of_the_rule(self):
        self.wrong_at((5, 1), ODD + (None, (), (1,), (RICH[5][0][0], None, None)))
        self.wrong_at((5, 1, 0), NO_TUPLES + (None, (), ("least",), ("no", (), (), 1)))
        self.wrong_at((5, 1, 0, 1), NO_TUPLES + (None, (5,), (1, 0)))
        self.wrong_at((5, 1, 0, 2), NO_TUPLES + (None, ()))
        self.wrong_at((5, 1, 0, 3), NO_INTEGERS + (None, 41, -1))
        self.wrong_at((5, 1, 1), NO_INTEGERS + (0, -1, 10 ** 6 + 1))

    def test_the_first_comes_first(self):
        wrong = (None, ("x",), ("x",), ("x",), ("x",), ("x",))
        places = ((0,), (1, 0), (2, 0), (3, 0), (4, 0), (5, 0))
        for number, place in enumerate(places):
            self.wrong(place, EMPTY[:number] + wrong[number:])
        self.wrong((1, 0), changed(changed(RICH, (1, 0), None), (1, 2), None))
        self.wrong((1, 2), changed(changed(RICH, (1, 2), None), (2,), None))
        self.wrong((4, 4), changed(changed(RICH, (4, 4), None), (5,), None))

    def test_two_hundred_spots(self):
        # 20 hours, 10 rooms: 200 spots; one hour more: 210
        rooms = ((0, ()),) * 10
        self.right(book((10, 10), rooms, (), (), (task(features=()),)))
        self.right(book((10, 10, 1), rooms, (), (), (task(2, features=()),)))
        self.too_great(book((10, 10, 1), rooms, (), (), (task(features=()),)))
        # 29 people may at 4 hours each, one at 84: 200, and with an hour more 201
        people = ((0, 1, 2, 3),) * 29 + (tuple(range(84)),)
        more = ((0, 1, 2, 3, 4),) + people[1:]
        able = tuple(range(30))
        self.right(book((12,) * 7, (), people, (), (task(1, None, able),)))
        self.too_great(book((12,) * 7, (), more, (), (task(1, None, able),)))
        # whichever task it is
        self.too_great(book((12,) * 7, (), more, (), (task(), task(1, None, able), task())))
        self.too_great(book((12,) * 7, (), more, (), (task(), task(), task(1, None, able))))

    def too_great(self, a_book):
        self.refused(TooGreat, {"most": 200}, need_book, a_book)

    def test_too_great_comes_last(self):
        great = book((12,) * 7, ((0, ()),) * 3, (), (), (task(features=()),))
        self.too_great(great)
        self.wrong((5,), changed(great, (5,), None))
        self.wrong((5, 0), changed(great, (5,), (None,)))
        self.wrong((4, 1), changed(great, (4,), great[4] + (None,)))

    def test_each_function_checks_the_book(self):
        for function in (spots_of, need_plan, row_of_plan, plan_of_row):
            self.refused(BadBook, {"place": ()}, function, None, None)
            self.refused(BadBook, {"place": (4, 0)}, function, changed(RICH, (4, 0), None), None)


class Spots(Case):
    def test_example(self):
        self.assertEqual(spots_of(EXAMPLE, 0), ((0, 0, 0), (1, 0, 0)))

    def test_by_hand(self):
        maker = Maker(2)
        for a_book in [RICH, EXAMPLE] + [maker.book() for _ in range(400)]:
            for number in range(len(a_book[4])):
                spots = spots_of(a_book, number)
                self.assertEqual(spots, spots_by_hand(a_book, number))
                self.unchangeable(spots)
                self.assertEqual(spots, tuple(sorted(set(spots), key=lambda spot: tuple(
                    -1 if value is None else value for value in spot))))

    def test_none_needed(self):
        a_book = book((2, 1), ((9, ()),), ((0, 1, 2),), (), (task(), task(1, None, (0,)), task(1, None, (), (), ())))
        self.assertEqual(spots_of(a_book, 0), ((0, None, None), (1, None, None), (2, None, None)))
        self.assertEqual(spots_of(a_book, 1), ((0, None, 0), (1, None, 0), (2, None, 0)))
        self.assertEqual(spots_of(a_book, 2), ((0, 0, None), (1, 0, None), (2, 0, None)))

    def test_order(self):
        a_book = book((2,), ((9, ()), (9, ())), ((0, 1), (0, 1)), (), (task(1, None, (0, 1), (), ()),))
        self.assertEqual(spots_of(a_book, 0), (
            (0, 0, 0), (0, 0, 1), (0, 1, 0), (0, 1, 1), (1, 0, 0), (1, 0, 1), (1, 1, 0), (1, 1, 1)))

    def test_ends_of_days(self):
        for length, hours in ((1, (0, 1, 2, 3, 4, 5, 6, 7)), (2, (0, 1, 4, 5, 6)), (3, (0, 4, 5)), (4, (4,))):
            a_book = book((3, 1, 4), (), (), (), (task(length),))
            self.assertEqual(spots_of(a_book, 0), tuple((hour, None, None) for hour in hours))

    def test_a_person_who_may_around_midnight(self):
        a_book = book((3, 2), (), ((2, 3),), (), (task(2, None, (0,)),))
        self.assertEqual(spots_of(a_book, 0), ())

    def test_starts(self):
        a_book = book((3, 2), (), (), (), (task(2, (1, 2, 3, 4)), task(1, ()), task(1, (4,))))
        self.assertEqual(spots_of(a_book, 0), ((1, None, None), (3, None, None)))
        self.assertEqual(spots_of(a_book, 1), ())
        self.assertEqual(spots_of(a_book, 2), ((4, None, None),))

    def test_sizes_of_rooms(self):
        rooms = ((0, ()), (9, ()), (10, ()), (1000, ()))
        tasks = (task(1, None, (), (0,), ()), task(1, None, (), (0, 1), ()), task(1, None, (), (1, 2), ()), task(
            1, None, (), (), ()), task(1, None, (), (0, 2), ()))
        a_book = book((1,), rooms, (), (9, 1, 1000), tasks)
        self.assertEqual(
            [[spot[1] for spot in spots_of(a_book, number)] for number in range(5)],
            [[1, 2, 3], [2, 3], [], [0, 1, 2, 3], []],
        )

    def test_features_of_rooms(self):
        rooms = ((9, ()), (9, (0,)), (9, (7,)), (9, (0, 7)), (9, tuple(range(8))))
        tasks = tuple(task(1, None, (), (), features) for features in ((), (0,), (7,), (0, 7), (3,)))
        a_book = book((1,), rooms, (), (), tasks)
        self.assertEqual(
            [[spot[1] for spot in spots_of(a_book, number)] for number in range(5)],
            [[0, 1, 2, 3, 4], [1, 3, 4], [2, 3, 4], [3, 4], [4]],
        )

    def test_no_spot(self):
        self.assertEqual(spots_of(RICH, 4), ())
        self.assertEqual(spots_of(book((1,), (), (), (), (task(2),)), 0), ())
        self.assertEqual(spots_of(book((1,), (), (), (), (task(features=()),)), 0), ())
        self.assertEqual(spots_of(book((1,), (), ((),), (), (task(1, None, (0,)),)), 0), ())

    def test_two_hundred(self):
        a_book = book((10, 10), ((0, ()),) * 10, (), (), (task(features=()),))
        self.assertEqual(len(spots_of(a_book, 0)), 200)

    def test_wrong_task(self):
        for number in NO_INTEGERS + (None, -1, 5, 6, 10 ** 5000):
            self.refused(BadParameter, {"value": number}, spots_of, RICH, number)
        self.refused(BadParameter, {"value": 0}, spots_of, EMPTY, 0)

    def test_order_stays_with_less(self):
        """[11]: an hour less of a person, a room less at the end, hours left out of STARTS."""
        maker = Maker(3)
        for _ in range(200):
            a_book = maker.book()
            for number in range(len(a_book[4])):
                spots = spots_of(a_book, number)
                for lesser in self.lesser_books(a_book, number):
                    left = spots_of(lesser, number)
                    self.assertEqual(left, tuple(spot for spot in spots if spot in left))

    def lesser_books(self, a_book, number):
        found = [changed(a_book, (2, at), hours[1:]) for at, hours in enumerate(a_book[2])]
        if a_book[1]:
            found.append(changed(a_book, (1,), a_book[1][:-1]))
        found = [changed(lesser, (5,), ()) for lesser in found]
        starts = a_book[4][number][1]
        hours = tuple(range(sum(a_book[0]))) if starts is None else starts
        found += [changed(a_book, (4, number, 1), hours[:at] + hours[at + 1:]) for at in range(len(hours))]
        return found


class Plans(Case):
    def test_right(self):
        for plan in (((0, 0, 0), (0, 0, 0), (2, None, None), (0, None, None)),):
            self.assertIs(need_plan(MEETABLE, plan), plan)
        self.assertEqual(need_plan(EMPTY, ()), ())

    def test_no_plan(self):
        plan = ((0, 0, 0), (0, 0, 0), (2, None, None), (0, None, None))
        for value in NO_TUPLES + (None, (), plan[:3], plan + plan[:1], list(plan)):
            for function in (need_plan, row_of_plan):
                self.refused(BadPlan, {"place": ()}, function, MEETABLE, value)

    def test_no_spots(self):
        plan = ((0, 0, 0), (0, 0, 0), (2, None, None), (0, None, None))
        wrong = NO_TUPLES + (
            None, (), (0, 0), (0, 0, 0, 0), (0, 1, 0), (4, 0, 0), (0, None, 0), (0, 0, None), (-1, 0, 0),
            (False, 0, 0), (0, False, 0), (0, 0, False), (0.0, 0, 0), [0, 0, 0], ("0", 0, 0), (10 ** 5000, 0, 0),
        )
        for value in wrong:
            self.refused(BadPlan, {"place": (0,)}, need_plan, MEETABLE, changed(plan, (0,), value))
            if value != (0, 1, 0):
                self.refused(BadPlan, {"place": (1,)}, row_of_plan, MEETABLE, changed(plan, (1,), value))
        for value in ((True, None, None), (1, None, None), (2, 0, None), (2, None, 0), (2, None, False)):
            self.refused(BadPlan, {"place": (2,)}, need_plan, MEETABLE, changed(plan, (2,), value))

    def test_the_first_comes_first(self):
        self.refused(BadPlan, {"place": (1,)}, need_plan, MEETABLE, ((0, 0, 0), None, None, None))

    def test_without_a_spot_there_is_no_plan(self):
        plan = ((0, 0, 0), (0, 0, 0), (2, None, None), (0, None, None), (0, None, None))
        self.refused(BadPlan, {"place": (4,)}, need_plan, RICH, plan)
        self.refused(BadPlan, {"place": (4,)}, need_plan, RICH, plan[:4] + (None,))

    def test_rows(self):
        plan = ((1, 2, 0), (1, 0, 0), (4, None, None), (0, None, None))
        self.assertEqual(spots_of(MEETABLE, 0)[4], (1, 2, 0))
        row = row_of_plan(MEETABLE, plan)
        self.assertEqual(row, (4, 3, 1, 0))
        self.assertEqual(plan_of_row(MEETABLE, row), plan)
        self.assertEqual((row_of_plan(EMPTY, ()), plan_of_row(EMPTY, ())), ((), ()))

    def test_there_and_back(self):
        maker = Maker(4)
        for _ in range(150):
            a_book = maker.meetable_book()
            plans = [maker.plan(a_book) for _ in range(4)]
            rows = [row_of_plan(a_book, plan) for plan in plans]
            for plan, row in zip(plans, rows):
                self.unchangeable(row)
                self.assertEqual(need_plan(a_book, plan), plan)
                self.assertEqual(row, tuple(
                    spots_by_hand(a_book, number).index(spot) for number, spot in enumerate(plan)))
                self.assertEqual(plan_of_row(a_book, row), plan)
            ascending = [tuple(tuple(-1 if x is None else x for x in spot) for spot in plan) for plan in plans]
            for one in range(4):
                for other in range(4):
                    self.assertEqual(ascending[one] < ascending[other], rows[one] < rows[other])

    def test_wrong_rows(self):
        for row in NO_TUPLES + (
            None, (), (0, 0, 0), (0, 0, 0, 0, 0), [0, 0, 0, 0], (-1, 0, 0, 0), (14, 0, 0, 0), (0, 6, 0, 0), (0, 0, 2, 0),
            (0, 0, 0, 1), (True, 0, 0, 0), (0, False, 0, 0), (0, 0, None, 0), (0, 0, 0, 0.0), (0, 0, 0, "0"),
        ):
            self.refused(BadParameter, {"value": row}, plan_of_row, MEETABLE, row)
        self.refused(BadParameter, {"value": (0,) * 5}, plan_of_row, RICH, (0,) * 5)


if __name__ == "__main__":
    unittest.main()
