"""[3], [16], [17]: when a plan keeps a rule and a book, its price and its moves."""

import unittest

from besthours.book import need_book, spots_of
from besthours.errors import BadBook, BadParameter, BadPlan, BadRule
from besthours.meaning import broken, keeps, moves_of, need_rule, price_of, rule_kept, rules_broken
from samples import Case, EMPTY, MEETABLE, Maker, NO_INTEGERS, NO_TUPLES, ODD, RICH, book, changed, task

ANY = (None, None, None)

# the document's example: two tasks of one hour that one person does
LINE = book((4,), (), ((0, 1, 2, 3),), (), (task(1, None, (0,)), task(1, None, (0,))))


def at_hours(*hours):
    return tuple((hour, None, None) for hour in hours)


class Kept(Case):
    def kept(self, a_book, what, plan):
        self.assertIs(rule_kept(a_book, (what, None), plan), True)
        self.assertIs(rule_kept(a_book, (what, 7), plan), True)

    def broken(self, a_book, what, plan):
        self.assertIs(rule_kept(a_book, (what, None), plan), False)
        self.assertIs(rule_kept(a_book, (what, 7), plan), False)

    def test_example(self):
        close = ("close", ("person", 0), (0, 1))
        before = ("before", 0, 1, 2)
        apart, beside, same = ((0, None, 0), (2, None, 0)), ((0, None, 0), (1, None, 0)), ((1, None, 0), (1, None, 0))
        self.broken(LINE, close, apart)
        self.kept(LINE, close, beside)
        self.assertEqual(broken(LINE, same), ("person", 0, 1))
        self.kept(LINE, before, apart)
        self.broken(LINE, before, beside)
        self.broken(LINE, before, same)

    def test_least_and_most(self):
        a_book = book((4,), (), (), (), (task(), task(), task()))
        plan = at_hours(0, 1, 3)
        for tasks, hours, many in (
            ((0, 1, 2), (0,), 1), ((0, 1, 2), (0, 1), 2), ((0, 1), (0, 3), 1), ((0, 1, 2), (2,), 0),
            ((0, 1, 2), None, 3), ((), None, 0), ((0, 1, 2), (), 0), ((2,), (3,), 1), ((2,), (0, 1, 2), 0),
        ):
            for count in range(5):
                at = (hours, None, None)
                (self.kept if many >= count else self.broken)(a_book, ("least", tasks, at, count), plan)
                (self.kept if many <= count else self.broken)(a_book, ("most", tasks, at, count), plan)

    def is_in(self, a_book, plan, at, inside):
        """Whether the task 0 is in AT."""
        (self.kept if inside else self.broken)(a_book, ("least", (0,), at, 1), plan)
        (self.broken if inside else self.kept)(a_book, ("most", (0,), at, 0), plan)
        length = a_book[4][0][0]
        self.kept(a_book, ("load", (0,), at, length if inside else 0, length if inside else 0), plan)

    def test_at_hours(self):
        a_book = book((4, 3), (), (), (), (task(2),))
        for hours, inside in (
            (None, True), ((), False), ((1,), True), ((2,), True), ((0,), False), ((3,), False), ((0, 3), False),
            ((0, 2), True), ((4, 5, 6), False), ((0, 1, 2, 3), True),
        ):
            self.is_in(a_book, at_hours(1), (hours, None, None), inside)
        # the last hours of a day
        self.is_in(a_book, at_hours(2), ((3,), None, None), True)
        self.is_in(a_book, at_hours(2), ((4,), None, None), False)
        self.is_in(a_book, at_hours(5), ((6,), None, None), True)

    def test_at_rooms_and_people(self):
        a_book = book((1,), ((9, ()), (9, ())), ((0,), (0,)), (), (task(1, None, (0, 1), (), ()),))
        sets = (None, (), (0,), (1,), (0, 1))
        for room in (0, 1):
            for person in (0, 1):
                for rooms in sets:
                    for people in sets:
                        inside = (rooms is None or room in rooms) and (people is None or person in people)
                        self.is_in(a_book, ((0, room, person),), (None, rooms, people), inside)
                        self.is_in(a_book, ((0, room, person),), ((0,), rooms, people), inside)
                        self.is_in(a_book, ((0, room, person),), ((), rooms, people), False)

    def test_at_without_room_and_person(self):
        a_book = book((1,), ((9, ()),), ((0,),), (), (task(),))
        plan = at_hours(0)
        self.is_in(a_book, plan, ANY, True)
        self.is_in(a_book, plan, ((0,), None, None), True)
        for at in ((None, (0,), None), (None, (), None), (None, None, (0,)), (None, None, ()), ((0,), (0,), (0,))):
            self.is_in(a_book, plan, at, False)

    def test_load(self):
        a_book = book((4, 4), (), (), (), (task(1), task(2), task(3), task(4)))
        plan = at_hours(0, 1, 1, 4)
        for tasks, hours, load in (
            ((0, 1, 2, 3), None, 10), ((0, 1, 2), (2,), 5), ((0, 1), (1,), 2), ((0, 1, 2, 3), (0,), 1),
            ((3,), (7,), 4), ((0, 1, 2, 3), (), 0), ((), None, 0), ((0, 3), (0, 4), 5),
        ):
            for low in range(12):
                for high in range(low, 12):
                    what = ("load", tasks, (hours, None, None), low, high)
                    (self.kept if low <= load <= high else self.broken)(a_book, what, plan)
        self.kept(a_book, ("load", (0,), ANY, 0, 160), plan)
        self.broken(a_book, ("load", (0, 1, 2, 3), ANY, 160, 160), plan)

    def test_before(self):
        a_book = book((5, 5), (), (), (), (task(2), task(1)))
        for first in (0, 1, 2, 3, 5, 6, 7, 8):
            for later in range(10):
                for gap in (0, 1, 2, 3, 80):
                    far = later - (first + 1)
                    (self.kept if far >= gap else self.broken)(
                        a_book, ("before", 0, 1, gap), at_hours(first, later))
        # of two hours, the first one is the task's HOUR
        self.kept(a_book, ("before", 1, 0, 1), at_hours(3, 2))
        self.broken(a_book, ("before", 1, 0, 1), at_hours(2, 2))
        self.kept(a_book, ("before", 1, 0, 0), at_hours(2, 2))
        # over the end of a day
        self.kept(a_book, ("before", 0, 1, 1), at_hours(3, 5))
        self.broken(a_book, ("before", 0, 1, 2), at_hours(3, 5))

    def alike(self, a_book, sort, plan, same):
        """Both tasks have the same of the SORT, or not."""
        for one, other in ((0, 1), (1, 0)):
            (self.kept if same else self.broken)(a_book, ("alike", one, other, sort), plan)
            (self.broken if same else self.kept)(a_book, ("unlike", one, other, sort), plan)

    def test_alike_day_and_start(self):
        a_book = book((3, 1, 2), (), (), (), (task(), task(2)))
        days = (0, 0, 0, 1, 2, 2)
        for hour in range(6):
            for other in (0, 1, 4):
                self.alike(a_book, "day", at_hours(hour, other), days[hour] == days[other])
                self.alike(a_book, "start", at_hours(hour, other), hour == other)

    def test_alike_room_and_person(self):
        rooms = ((9, ()), (9, ()))
        both = book((1,), rooms, ((0,), (0,)), (), (task(1, None, (0, 1), (), ()),) * 2)
        for room in (0, 1):
            for other in (0, 1):
                self.alike(both, "room", ((0, room, 0), (0, other, 1)), room == other)
                self.alike(both, "person", ((0, 0, room), (0, 1, other)), room == other)

    def test_alike_none(self):
        rooms = ((9, ()),)
        without = book((1,), rooms, ((0,),), (), (task(), task()))
        one = book((1,), rooms, ((0,),), (), (task(), task(1, None, (0,), (), ())))
        for sort in ("room", "person"):
            self.alike(without, sort, at_hours(0, 0), True)
            self.alike(one, sort, ((0, None, None), (0, 0, 0)), False)

    def test_close_of_a_group(self):
        a_book = book((6, 3), (), (), (5, 5), tuple(task(1, None, (), groups) for groups in ((0,), (0, 1), (1,), ())))
        close = ("close", ("group", 0), (0, 1, 2, 3))
        for plan, is_close in (
            ((0, 1, 5, 3), True), ((0, 2, 1, 1), False), ((2, 2, 0, 0), True), ((4, 3, 0, 0), True),
            ((5, 6, 0, 0), True), ((0, 8, 0, 0), True), ((6, 8, 7, 7), False), ((6, 7, 0, 0), True),
        ):
            (self.kept if is_close else self.broken)(a_book, close, at_hours(*plan))
        # only those of TASKS count
        self.kept(a_book, ("close", ("group", 0), (0, 2, 3)), at_hours(0, 2, 5, 3))
        self.broken(a_book, ("close", ("group", 1), (1, 2)), at_hours(0, 2, 5, 3))
        self.kept(a_book, ("close", ("group", 0), ()), at_hours(0, 2, 5, 3))

    def test_close_of_long_tasks(self):
        a_book = book((8, 2), (), (), (5,), (task(3, None, (), (0,)), task(2, None, (), (0,)), task(1, None, (), (0,))))
        close = ("close", ("group", 0), (0, 1, 2))
        for plan, is_close in (
            ((0, 3, 5), True), ((0, 4, 3), True), ((0, 4, 7), False), ((0, 1, 2), True), ((0, 2, 5), False),
            ((5, 3, 8), True), ((5, 2, 9), False), ((0, 6, 8), False), ((0, 8, 4), False), ((5, 8, 4), True),
        ):
            (self.kept if is_close else self.broken)(a_book, close, at_hours(*plan))

    def test_close_of_a_person(self):
        may = tuple(range(4))
        a_book = book((4,), (), (may, may), (), (task(1, None, (0, 1)),) * 3)
        for people, is_close in (((0, 1, 0), False), ((0, 0, 0), True), ((0, 1, 1), True), ((1, 0, 0), True)):
            plan = tuple((hour, None, person) for hour, person in enumerate(people))
            (self.kept if is_close else self.broken)(a_book, ("close", ("person", 0), (0, 1, 2)), plan)

    def test_facts_of_complements(self):
        maker = Maker(11)
        for _ in range(300):
            a_book = maker.meetable_book()
            many = len(a_book[4])
            plan = maker.plan(a_book)
            tasks, at = maker.set_of(many, 0.8), maker.at(a_book)
            for count in range(1, many + 2):
                least = rule_kept(a_book, (("least", tasks, at, count), None), plan)
                most = rule_kept(a_book, (("most", tasks, at, count - 1), None), plan)
                self.assertIs(least, not most)
            for sort in ("day", "start", "room", "person"):
                if many > 1:
                    alike = rule_kept(a_book, (("alike", 0, 1, sort), None), plan)
                    self.assertIs(alike, not rule_kept(a_book, (("unlike", 0, 1, sort), None), plan))

    def test_fact_of_close(self):
        maker = Maker(12)
        for _ in range(400):
            a_book = maker.meetable_book()
            if not a_book[2] and not a_book[3]:
                continue
            plan, who = maker.plan(a_book), maker.who(a_book)
            tasks = maker.set_of(len(a_book[4]), 0.9)
            kept = rule_kept(a_book, (("close", who, tasks), None), plan)
            self.assertIs(kept, not self.has_gap(a_book, plan, who, tasks))

    def has_gap(self, a_book, plan, who, tasks):
        held = {}
        for number in tasks:
            hour, _, person = plan[number]
            mine = person == who[1] if who[0] == "person" else who[1] in a_book[4][number][3]
            if mine:
                held.update({hour + more: True for more in range(a_book[4][number][0])})
        day_of_hour = [day for day, many in enumerate(a_book[0]) for _ in range(many)]
        return any(
            first < hour < last and day_of_hour[first] == day_of_hour[last] and hour not in held
            for first in held for last in held for hour in range(sum(a_book[0]))
        )

    def test_fact_only_its_tasks_count(self):
        maker = Maker(13)
        for _ in range(200):
            a_book = maker.meetable_book()
            one, other = maker.plan(a_book), maker.plan(a_book)
            for rule in a_book[5]:
                what = rule[0]
                named = what[1:3] if what[0] in ("before", "alike", "unlike") else what[2 if what[0] == "close" else 1]
                mixed = tuple(one[at] if at in named else other[at] for at in range(len(one)))
                self.assertIs(rule_kept(a_book, rule, one), rule_kept(a_book, rule, mixed))

    def test_order_of_errors(self):
        right = (("least", (), ANY, 0), None)
        self.refused(BadBook, {"place": ()}, rule_kept, None, None, None)
        self.refused(BadRule, {"place": ()}, rule_kept, LINE, None, None)
        self.refused(BadPlan, {"place": ()}, rule_kept, LINE, right, None)
        self.refused(BadPlan, {"place": (1,)}, rule_kept, LINE, right, ((0, None, 0), None))


class Broken(Case):
    def test_kept(self):
        self.assertIsNone(broken(EMPTY, ()))
        self.assertIs(keeps(EMPTY, ()), True)
        self.assertIsNone(broken(LINE, ((0, None, 0), (1, None, 0))))
        self.assertIs(keeps(LINE, ((0, None, 0), (1, None, 0))), True)
        self.assertIs(keeps(LINE, ((0, None, 0), (0, None, 0))), False)

    def test_rooms_then_people_then_groups_then_rules(self):
        may = tuple(range(6))
        tasks = (task(2, None, (0, 1), (0, 1), ()),) * 3
        a_book = book((6,), ((99, ()), (99, ())), (may, may), (5, 5), tasks, ((("least", (), ANY, 1), None),))
        for plan, first in (
            (((0, 0, 0), (1, 0, 1), (4, 1, 1)), ("room", 0, 1)),
            (((0, 1, 0), (0, 1, 0), (1, 1, 0)), ("room", 1, 0)),
            (((0, 1, 0), (4, 0, 0), (3, 0, 1)), ("room", 0, 4)),
            (((0, 0, 1), (1, 1, 1), (4, 1, 1)), ("person", 1, 1)),
            (((2, 0, 0), (1, 1, 0), (4, 1, 1)), ("person", 0, 2)),
            (((4, 0, 0), (1, 1, 0), (2, 0, 1)), ("group", 0, 2)),
            (((4, 0, 0), (0, 0, 0), (2, 0, 0)), ("rule", 0)),
        ):
            self.assertEqual(broken(a_book, plan), first)
            self.unchangeable(broken(a_book, plan))
            self.assertIs(keeps(a_book, plan), False)

    def test_the_first_thing_ahead_of_the_first_hour(self):
        a_book = book((4,), ((9, ()), (9, ())), (), (), (task(1, None, (), (), ()),) * 4)
        self.assertEqual(broken(a_book, ((3, 0, None), (0, 1, None), (0, 1, None), (3, 0, None))), ("room", 0, 3))
        self.assertEqual(broken(a_book, ((3, 1, None), (0, 1, None), (0, 1, None), (3, 1, None))), ("room", 1, 0))

    def test_no_room_no_person_is_not_shared(self):
        a_book = book((1,), ((9, ()),), ((0,),), (3,), (task(), task()))
        self.assertIsNone(broken(a_book, at_hours(0, 0)))

    def test_the_second_group(self):
        a_book = book((2,), (), (), (3, 4), (task(2, None, (), (0, 1)), task(1, None, (), (1,)), task(1, None, (), (1,))))
        self.assertEqual(broken(a_book, at_hours(0, 1, 0)), ("group", 1, 0))
        self.assertEqual(broken(changed(a_book, (4, 0, 3), (0,)), at_hours(0, 1, 0)), None)

    def test_more_things_than_tasks(self):
        rooms, people = ((9, ()),) * 4, ((0,),) * 4
        two = (task(1, None, (3,), (3,), ()),) * 2
        a_book = book((1,), rooms, people, (1,) * 4, two)
        self.assertEqual(broken(a_book, ((0, 3, 3), (0, 3, 3))), ("room", 3, 0))
        self.assertEqual(broken(a_book, ((0, 3, 3), (0, 2, 3))), ("person", 3, 0))
        a_book = changed(a_book, (4, 0, 2), ())
        self.assertEqual(broken(a_book, ((0, 3, None), (0, 2, 3))), ("group", 3, 0))

    def test_neighbours_hold_unlike_hours(self):
        a_book = book((4,), ((9, ()),), (), (), (task(2, None, (), (), ()),) * 2)
        self.assertIsNone(broken(a_book, ((0, 0, None), (2, 0, None))))
        self.assertEqual(broken(a_book, ((0, 0, None), (1, 0, None))), ("room", 0, 1))

    def test_rules_without_a_price_alone(self):
        never, always = ("least", (), ANY, 1), ("least", (), ANY, 0)
        a_book = changed(EMPTY, (5,), ((never, 5), (always, None), (never, 7), (never, None), (never, None)))
        self.assertEqual(broken(a_book, ()), ("rule", 3))
        self.assertEqual(rules_broken(a_book, ()), (0, 2, 3, 4))
        self.assertEqual(price_of(a_book, ()), 12)
        self.assertIsNone(broken(changed(a_book, (5,), a_book[5][:3]), ()))

    def test_by_hand(self):
        maker = Maker(14)
        for _ in range(400):
            a_book = maker.meetable_book()
            plan = maker.plan(a_book)
            wrong = tuple(at for at, rule in enumerate(a_book[5]) if not rule_kept(a_book, rule, plan))
            self.assertEqual(rules_broken(a_book, plan), wrong)
            self.unchangeable(rules_broken(a_book, plan))
            first = self.first_broken(a_book, plan, wrong)
            self.assertEqual(broken(a_book, plan), first)
            self.assertIs(keeps(a_book, plan), first is None)
            price = sum(a_book[5][at][1] or 0 for at in wrong)
            price += sum(dict(told[5]).get(spot[0], 0) for told, spot in zip(a_book[4], plan))
            self.assertEqual(price_of(a_book, plan), price)

    def first_broken(self, a_book, plan, wrong):
        has = {
            "room": lambda at, number: plan[at][1] == number,
            "person": lambda at, number: plan[at][2] == number,
            "group": lambda at, number: number in a_book[4][at][3],
        }
        for index, word in enumerate(("room", "person", "group"), 1):
            for number in range(len(a_book[index])):
                for hour in range(sum(a_book[0])):
                    those = [
                        at for at, told in enumerate(a_book[4])
                        if plan[at][0] <= hour < plan[at][0] + told[0] and has[word](at, number)
                    ]
                    if len(those) > 1:
                        return (word, number, hour)
        must = [at for at in wrong if a_book[5][at][1] is None]
        return ("rule", must[0]) if must else None

    def test_fact_lesser_books(self):
        maker = Maker(15)
        seen = 0
        for _ in range(600):
            a_book = maker.meetable_book()
            plan = maker.plan(a_book)
            if not keeps(a_book, plan):
                continue
            seen += 1
            for at in range(len(a_book[5])):
                lesser = changed(a_book, (5,), a_book[5][:at] + a_book[5][at + 1:])
                self.assertTrue(keeps(lesser, plan))
            told = [rule[0][1][1] for rule in a_book[5] if rule[0][0] == "close" and rule[0][1][0] == "group"]
            for at, one in enumerate(a_book[4]):
                lesser = changed(a_book, (4, at, 3), tuple(group for group in one[3] if group in told))
                self.assertTrue(keeps(lesser, plan))
        self.assertGreater(seen, 50)

    def test_errors(self):
        for function in (broken, keeps, rules_broken, price_of):
            self.refused(BadBook, {"place": ()}, function, None, None)
            for plan in NO_TUPLES + (None, (), ((0, None, 0),), ((0, None, 0),) * 3):
                self.refused(BadPlan, {"place": ()}, function, LINE, plan)
            self.refused(BadPlan, {"place": (1,)}, function, LINE, ((0, None, 0), (4, None, 0)))
            self.refused(BadPlan, {"place": (0,)}, function, LINE, ((False, None, 0), (4, None, 0)))


class Prices(Case):
    def test_spots(self):
        a_book = book((4,), (), (), (), (
            task(2, None, (), (), None, ((0, 5), (2, 10 ** 6))), task(1, None, (), (), None, ((1, 3),))))
        for plan, price in (((0, 0), 5), ((1, 0), 0), ((2, 1), 10 ** 6 + 3), ((0, 1), 8)):
            self.assertEqual(price_of(a_book, at_hours(*plan)), price)

    def test_more_than_a_price_may_be(self):
        rules = ((("least", (), ANY, 1), 10 ** 6),) * 40
        self.assertEqual(price_of(changed(EMPTY, (5,), rules), ()), 4 * 10 ** 7)

    def test_rules_without_a_price_cost_nothing(self):
        self.assertEqual(price_of(changed(EMPTY, (5,), ((("least", (), ANY, 1), None),)), ()), 0)


class Moves(Case):
    plan = ((0, 0, 0), (0, 0, 0), (2, None, None), (0, None, None))

    def moves(self, old):
        return moves_of(MEETABLE, old, self.plan)

    def test_none(self):
        self.assertEqual(self.moves(None), ())
        self.assertEqual(self.moves((None,) * 4), ())
        self.assertEqual(self.moves(self.plan), ())

    def test_moved(self):
        self.assertEqual(self.moves(((0, 2, 0), (0, 0, 0), (4, None, None), None)), (0, 2))
        self.assertEqual(self.moves(((1, 0, 0), (1, 0, 0), (4, None, None), (0, None, None))), (0, 1, 2))
        self.unchangeable(self.moves(((0, 2, 0), (0, 0, 0), (4, None, None), None)))

    def test_spots_that_are_none_any_more(self):
        self.assertEqual(self.moves(((0, 1, 0), (4, 0, 0), (83, None, None), (0, 11, 29))), ())
        self.assertEqual(self.moves(((83, 11, 29),) * 4), ())

    def test_spots_of_other_tasks(self):
        # (0, 1, 0) is a spot of the task 1 alone, (2, None, None) of the task 2 alone
        self.assertEqual(self.moves(((0, 1, 0), (0, 1, 0), None, None)), (1,))
        self.assertEqual(self.moves(((2, None, None), (2, None, None), (2, None, None), (2, None, None))), ())
        self.assertIn((0, 1, 0), spots_of(MEETABLE, 1))

    def test_wrong_old(self):
        right = (None,) * 4
        wrong = NO_TUPLES + ((), right[:3], right + (None,), list(right))
        things = ODD + (
            0, (), (0, None), (0, None, None, None), [0, None, None], (84, None, None), (-1, None, None),
            (None, None, None), (0, 12, None), (0, -1, None), (0, None, 30), (0, None, -1), (True, None, None),
            (0, False, None), (0, None, True), (0.0, None, None), (0, "0", None), (0, None, 1.0),
        )
        wrong += tuple(changed(right, (at,), value) for value in things for at in (0, 3))
        for old in wrong:
            self.refused(BadParameter, {"value": old}, moves_of, MEETABLE, old, self.plan)
            # ahead of the plan
            self.refused(BadParameter, {"value": old}, moves_of, MEETABLE, old, None)

    def test_order_of_errors(self):
        self.refused(BadBook, {"place": ()}, moves_of, None, 1, 1)
        self.refused(BadPlan, {"place": ()}, moves_of, MEETABLE, None, 1)
        self.refused(BadPlan, {"place": (3,)}, moves_of, MEETABLE, (None,) * 4, self.plan[:3] + (None,))

    def test_bounds(self):
        a_book = book((12,) * 7, ((9, ()),) * 12, (tuple(range(84)),) * 30, (), (task(1, (83,), (29,), (), ()),))
        spots = spots_of(a_book, 0)
        self.assertEqual(spots[-1], (83, 11, 29))
        self.assertEqual(moves_of(a_book, (spots[-1],), (spots[0],)), (0,))


class Checked(Case):
    def test_need_rule_is_that_of_books(self):
        for rule in RICH[5]:
            self.assertEqual(need_rule(RICH, rule), rule)
        for value in NO_INTEGERS + (0,):
            self.refused(BadRule, {"place": (1,)}, need_rule, RICH, (RICH[5][0][0], value))
            self.refused(BadBook, {"place": (5, 0, 1)}, need_book, changed(RICH, (5, 0, 1), value))


if __name__ == "__main__":
    unittest.main()
