"""[34], [35]: placings and lots, the least placing, the sums of hours, and lots as proofs."""

import itertools
import unittest

from besthours.errors import BadParameter, NoRow
from besthours.matchings import hour_sums, is_lot, is_placing, least_placing, lot_steps, matching
from besthours.sums import form_of, kept_by, need_sum
from placements import Drawer, led, placings, row_of_hours, rows_of
from samples import Case, NO_INTEGERS, NO_TUPLES, ODD, Odd, changed

# the example of the document
FIVE = ((0, 1), (0, 1), (0, 1), (1, 2), (2,))
ONES = (1, 1, 1)


def is_lot_by_hand(tasks, rooms, lot):
    hours = {hour for task in lot for hour in tasks[task]}
    return len(lot) > 0 and sum(rooms[hour] for hour in hours) < len(lot)


class Matchings(Case):
    def judge(self, tasks, rooms):
        """The answers, judged by all rows of hours."""
        wanted = placings(tasks, rooms)
        found = matching(tasks, rooms)
        self.unchangeable(found)
        word, value = found
        if wanted:
            self.assertEqual(word, "plan")
            self.assertIn(value, wanted)
            self.assertIs(is_placing(tasks, rooms, value), True)
            self.assertEqual(least_placing(tasks, rooms), wanted[0])
            self.unchangeable(least_placing(tasks, rooms))
        else:
            self.assertEqual(word, "lot")
            self.assertTrue(is_lot_by_hand(tasks, rooms, value))
            self.assertEqual(value, tuple(sorted(set(value))))
            self.assertIs(is_lot(tasks, rooms, value), True)
            self.refused(NoRow, {}, least_placing, tasks, rooms)
        return found

    def test_example(self):
        self.assertEqual(self.judge(FIVE, ONES)[0], "lot")
        self.assertIs(is_lot(FIVE, ONES, (0, 1, 2)), True)
        self.assertIs(is_lot(FIVE, ONES, (3, 4)), False)

    def test_by_hand(self):
        for tasks, rooms, wanted in (
            (((0,),), (1,), (0,)), (((0,),), (0,), None), (((),), (1,), None), (((), (0,)), (60,), None),
            (((0, 1), (0,)), (1, 1), (1, 0)), (((0, 1), (0, 1)), (2, 0), (0, 0)), (((0, 1), (0, 1)), (0, 2), (1, 1)),
            (((0, 1, 2),) * 3, (1, 1, 1), (0, 1, 2)), (((0, 1, 2),) * 3, (1, 0, 1), None),
            (((0, 1), (1, 2), (0,)), (1, 1, 1), (1, 2, 0)), (((99,),), (0,) * 99 + (1,), (99,)),
            (((0, 99),) * 60, (0,) * 99 + (60,), (99,) * 60), (((0,),) * 60, (60,), (0,) * 60),
        ):
            if wanted is None:
                self.refused(NoRow, {}, least_placing, tasks, rooms)
                word, lot = matching(tasks, rooms)
                self.assertEqual(word, "lot")
                self.assertTrue(is_lot_by_hand(tasks, rooms, lot))
            else:
                self.assertEqual(least_placing(tasks, rooms), wanted)
                self.assertEqual(matching(tasks, rooms)[0], "plan")

    def test_all_rows(self):
        drawer = Drawer(341)
        words = [self.judge(*self.drawn(drawer))[0] for _ in range(2500)]
        self.assertGreater(words.count("plan"), 500)
        self.assertGreater(words.count("lot"), 500)

    def drawn(self, drawer):
        tasks = drawer.tasks()
        return tasks, drawer.rooms(tasks)

    def test_no_lot_beside_a_placing(self):
        drawer = Drawer(342)
        for _ in range(300):
            tasks, rooms = self.drawn(drawer)
            lots = []
            for lot in itertools.chain(*(
                    itertools.combinations(range(len(tasks)), many) for many in range(len(tasks) + 1))):
                wanted = is_lot_by_hand(tasks, rooms, lot)
                self.assertIs(is_lot(tasks, rooms, lot), wanted)
                lots += [lot] if wanted else []
            self.assertEqual(lots == [], placings(tasks, rooms) != [])

    def test_every_row_judged(self):
        drawer = Drawer(343)
        for _ in range(200):
            tasks, rooms = self.drawn(drawer)
            wanted = placings(tasks, rooms)
            for row in itertools.product(range(-1, len(rooms) + 1), repeat=min(3, len(tasks))):
                # rows of the hours at hand, and some that are none of the tasks'
                row = row + tuple(own[0] if own else 0 for own in tasks[3:])
                self.assertIs(is_placing(tasks, rooms, row), row in wanted)

    def test_a_room_more_where_just_one_was_wanting(self):
        drawer = Drawer(344)
        tried = 0
        while tried < 200:
            tasks, rooms = self.drawn(drawer)
            found = matching(tasks, rooms)
            if found[0] == "plan" or any(own == () for own in tasks):
                continue
            lot = found[1]
            hours = sorted({hour for task in lot for hour in tasks[task]})
            # rooms come to one hour of the lot until it is none any more
            while is_lot_by_hand(tasks, rooms, lot):
                self.assertIs(is_lot(tasks, rooms, lot), True)
                rooms = changed(rooms, (hours[0],), rooms[hours[0]] + 1)
            self.assertIs(is_lot(tasks, rooms, lot), False)
            self.judge(tasks, rooms)
            tried += 1
        nine = ((0, 1, 2),) * 9
        self.assertEqual(matching(nine, (3, 3, 2)), ("lot", tuple(range(9))))
        self.assertEqual(least_placing(nine, (3, 3, 3)), (0, 0, 0, 1, 1, 1, 2, 2, 2))


class Great(Case):
    """Sixty tasks and a hundred hours."""

    def test_a_hidden_placing(self):
        drawer = Drawer(345)
        for likely in (0.0, 0.01, 0.02, 0.05, 0.2, 0.6):
            tasks, placing = drawer.hidden(60, 100, likely)
            rooms = (1,) * 100
            word, found = matching(tasks, rooms)
            self.assertEqual(word, "plan")
            self.assertIs(is_placing(tasks, rooms, found), True)
            self.assertIs(is_placing(tasks, rooms, placing), True)
            least = least_placing(tasks, rooms)
            self.assertIs(is_placing(tasks, rooms, least), True)
            self.assertLessEqual(least, min(found, placing))
            # the rooms of the placing alone
            alone = tuple(int(hour in placing) for hour in range(100))
            self.assertEqual(matching(tasks, alone)[0], "plan")
            short = changed(alone, (placing[7],), 0)
            word, lot = matching(tasks, short)
            self.assertEqual(word, "lot")
            self.assertTrue(is_lot_by_hand(tasks, short, lot))

    def test_the_least_by_asking_for_each_hour(self):
        # the least placing has at each task the least hour with which those behind can still be placed
        drawer = Drawer(346)
        for likely in (0.03, 0.1):
            tasks, _ = drawer.hidden(30, 40, likely)
            rooms = (1,) * 40
            least = least_placing(tasks, rooms)
            for at in range(30):
                ahead = tuple((hour,) for hour in least[:at])
                lesser = tuple(hour for hour in tasks[at] if hour < least[at])
                self.assertEqual(matching(ahead + (lesser,) + tasks[at + 1:], rooms)[0], "lot")

    def test_a_planted_lot(self):
        drawer = Drawer(347)
        for many in (2, 10, 30, 59):
            tasks, _ = drawer.hidden(60, 100, 0.3)
            few = tuple(sorted(drawer.chance.sample(range(100), many)))
            planted = drawer.chance.sample(range(60), many + 1)
            tasks = tuple(few if task in planted else own for task, own in enumerate(tasks))
            word, lot = matching(tasks, (1,) * 100)
            self.assertEqual(word, "lot")
            self.assertTrue(is_lot_by_hand(tasks, (1,) * 100, lot))
            self.refused(NoRow, {}, least_placing, tasks, (1,) * 100)
            rooms = changed((1,) * 100, (few[-1],), 2)
            self.assertEqual(matching(tasks, rooms)[0] == "plan", self.has_placing(tasks, rooms))

    def has_placing(self, tasks, rooms):
        """By one way after another on which tasks make room."""
        held = {hour: [] for hour in range(100)}

        def place(task, seen):
            for hour in tasks[task]:
                if hour not in seen:
                    seen.add(hour)
                    if len(held[hour]) < rooms[hour]:
                        held[hour].append(task)
                        return True
                    for at, other in enumerate(held[hour]):
                        if place(other, seen):
                            held[hour][at] = task
                            return True
            return False

        return all(place(task, set()) for task in range(len(tasks)))

    def test_many_rooms(self):
        tasks = ((0, 50, 99),) * 60
        rooms = tuple({0: 20, 50: 19, 99: 21}.get(hour, 0) for hour in range(100))
        self.assertEqual(least_placing(tasks, rooms), (0,) * 20 + (50,) * 19 + (99,) * 21)
        self.assertEqual(matching(tasks, changed(rooms, (0,), 19)), ("lot", tuple(range(60))))
        steps = lot_steps(tasks, changed(rooms, (0,), 19), tuple(range(60)))
        self.assertEqual(len(steps), 4)


class Sums(Case):
    def test_example(self):
        self.assertEqual(hour_sums(FIVE, ONES)[:2], (
            (((0, (0, 1)), (1, (0, 1)), (2, (0, 1))), 2),
            (((0, (1, 0)), (1, (1, 0)), (2, (1, 0)), (3, (0, 1))), 3)))
        steps = lot_steps(FIVE, ONES, (0, 1, 2))
        self.assertEqual(steps, (
            ("demand", 0), ("demand", 1), ("add", ((0, 1), (1, 1))), ("raise", 2, ((3, (1, 1)),))))
        sums = led((2, 2, 2, 2, 1), hour_sums(FIVE, ONES), steps)
        self.assertEqual(sums[2:], [(((3, (0, 1)),), 2), ((), 1)])

    def test_by_hand(self):
        # all of one hour; rooms for all; an hour that nobody may take
        self.assertEqual(hour_sums(((3,), (3,)), (0, 0, 0, 1)), (((), 1),))
        self.assertEqual(hour_sums(((3,), (3,)), (0, 0, 0, 2)), (((), 0),))
        self.assertEqual(hour_sums(((0, 3), (3,)), (0, 9, 9, 1)), ((((0, (0, 1)),), 1), (((0, (1, 0)),), 1)))
        self.assertEqual(lot_steps(((3,), (3,)), (0, 0, 0, 1), (0, 1)), (("demand", 0), ("add", ((0, 1),))))
        # the number of a demand is that of its hour among those of all tasks
        tasks, rooms = ((1,), (5, 7), (5, 7), (5, 7)), (0, 1, 0, 0, 0, 1, 0, 1)
        self.assertEqual(lot_steps(tasks, rooms, (1, 2, 3)), (
            ("demand", 1), ("demand", 2), ("add", ((0, 1), (1, 1)))))

    def sums_by_hand(self, tasks, rooms):
        sizes = tuple(len(own) for own in tasks)
        found = []
        for hour in sorted({hour for own in tasks for hour in own}):
            terms = tuple((task, tuple(int(one != hour) for one in own)) for task, own in enumerate(tasks))
            found.append(form_of(sizes, terms, len(tasks) - rooms[hour]))
        return tuple(found)

    def test_kept_exactly_by_placings(self):
        drawer = Drawer(351)
        for _ in range(400):
            tasks = drawer.tasks(1, 4, 4)
            rooms = drawer.rooms(tasks)
            sizes = tuple(len(own) for own in tasks)
            sums = hour_sums(tasks, rooms)
            self.unchangeable(sums)
            self.assertEqual(sums, self.sums_by_hand(tasks, rooms))
            wanted = placings(tasks, rooms)
            for hours in rows_of(tasks):
                row = row_of_hours(tasks, hours)
                self.assertEqual(all(kept_by(sizes, one, row) for one in sums), hours in wanted)

    def test_every_lot_refutes(self):
        drawer = Drawer(352)
        tried = loose = 0
        while tried < 1500:
            tasks = drawer.tasks(1)
            rooms = drawer.rooms(tasks)
            sizes = tuple(len(own) for own in tasks)
            sums = hour_sums(tasks, rooms)
            every = sorted({hour for own in tasks for hour in own})
            for many in range(1, len(tasks) + 1):
                for lot in itertools.combinations(range(len(tasks)), many):
                    if not is_lot_by_hand(tasks, rooms, lot):
                        self.refused(BadParameter, {"value": lot}, lot_steps, tasks, rooms, lot)
                        continue
                    tried += 1
                    steps = lot_steps(tasks, rooms, lot)
                    self.unchangeable(steps)
                    told = led(sizes, sums, steps)
                    self.assertEqual(told[-1][0], ())
                    self.assertGreater(told[-1][1], 0)
                    self.told_as_it_is(tasks, every, lot, steps, told)
                    loose += steps[-1][0] == "raise"
        self.assertGreater(loose, 200)

    def told_as_it_is(self, tasks, every, lot, steps, told):
        """The steps are those of the document, one by one."""
        hours = sorted({hour for task in lot for hour in tasks[task]})
        many = len(hours)
        self.assertEqual(steps[:many], tuple(("demand", every.index(hour)) for hour in hours))
        self.assertEqual(steps[many], ("add", tuple((number, 1) for number in range(many))))
        terms, bound = told[many]
        self.assertGreater(bound, sum(max(weights) for _, weights in terms))
        if terms:
            flat = tuple((choice, (max(weights),) * len(weights)) for choice, weights in terms)
            self.assertEqual(steps[many + 1:], (("raise", many, flat),))
        else:
            self.assertEqual(steps[many + 1:], ())

    def test_great_lots(self):
        drawer = Drawer(353)
        tasks, _ = drawer.hidden(60, 100, 0.3)
        few = tuple(range(0, 100, 3))
        tasks = tuple(few if task % 12 else own for task, own in enumerate(tasks))
        sizes, rooms = tuple(len(own) for own in tasks), (1,) * 100
        word, lot = matching(tasks, rooms)
        self.assertEqual(word, "lot")
        sums = hour_sums(tasks, rooms)
        self.assertTrue(all(need_sum(sizes, one) == one for one in sums))
        self.assertEqual(led(sizes, sums, lot_steps(tasks, rooms, lot))[-1][0], ())
        whole = tuple(task for task in range(60) if task % 12)
        self.assertEqual(led(sizes, sums, lot_steps(tasks, rooms, whole))[-1][0], ())


FUNCTIONS = (matching, is_placing, is_lot, least_placing, hour_sums, lot_steps)


class Wrong(Case):
    def args(self, function, tasks, rooms):
        return (tasks, rooms, None) if function in (is_placing, is_lot, lot_steps) else (tasks, rooms)

    def test_tasks(self):
        for tasks in NO_TUPLES + (None, (), ((),) * 61, ((0,), None), [(0,)]):
            for function in FUNCTIONS:
                self.refused(BadParameter, {"value": tasks}, function, *self.args(function, tasks, None))
        wrong = NO_TUPLES + (
            None, (1, 0), (0, 0), (-1,), (100,), (True,), (False, 1), (0.0,), ("0",), ((),), [0], (Odd(),), (None,))
        for own in wrong:
            for tasks in ((own,), ((0,), own), (own, (0,), ())):
                for function in FUNCTIONS:
                    self.refused(BadParameter, {"value": tasks}, function, *self.args(function, tasks, True))

    def test_rooms(self):
        wrong = NO_TUPLES + (None, (), (1,), (1, 1), (1,) * 101, [1, 1, 1], (1, 1, None), (1, 1, 61), (-1, 1, 1))
        for rooms in wrong + tuple((1, item, 1) for item in NO_INTEGERS):
            for function in FUNCTIONS:
                self.refused(BadParameter, {"value": rooms}, function, *self.args(function, FIVE, rooms))
        # an item for each hour is enough, and rooms at other hours are let
        self.assertEqual(least_placing(((),) * 0 + ((2,),), (0, 0, 1)), (2,))
        self.assertEqual(least_placing(((2,),), (0, 0, 1) + (60,) * 97), (2,))
        self.assertEqual(matching(((),), (1,)), ("lot", (0,)))

    def test_tasks_without_an_hour(self):
        for tasks in (((),), ((0,), ()), ((), (0,))):
            for rooms in ((1,), None, (True,)):
                self.refused(BadParameter, {"value": tasks}, hour_sums, tasks, rooms)
                self.refused(BadParameter, {"value": tasks}, lot_steps, tasks, rooms, (0,))

    def test_lots(self):
        wrong = NO_TUPLES + (
            None, (), (0,), (0, 1), (1, 0, 2), (0, 0, 1, 2), (0, 1, 5), (-1, 0, 1), (False, 1, 2), (0, True, 2),
            (0.0, 1, 2), [0, 1, 2], (0, 1, None), (Odd(), 1, 2), ((0, 1, 2),), (3, 4))
        for lot in wrong:
            self.assertIs(is_lot(FIVE, ONES, lot), False)
            self.refused(BadParameter, {"value": lot}, lot_steps, FIVE, ONES, lot)
        for lot in ((0, 1, 2), (0, 1, 2, 3), (0, 1, 2, 3, 4)):
            self.assertIs(is_lot(FIVE, ONES, lot), True)
        self.assertIs(is_lot(value=(0, 1, 2), rooms=ONES, tasks=FIVE), True)

    def test_placings(self):
        tasks = ((0, 1), (0, 1), (1, 2))
        good = (1, 0, 2)
        self.assertIs(is_placing(tasks, ONES, good), True)
        self.assertIs(is_placing(value=good, rooms=ONES, tasks=tasks), True)
        for value in NO_TUPLES + (None, (), (1, 0), (1, 0, 2, 0), [1, 0, 2], (1, 1, 2), (0, 0, 1), (1, 0, 0)):
            self.assertIs(is_placing(tasks, ONES, value), False)
        for at in range(3):
            for item in ODD + (None, (), 3, -1, 10 ** 5000):
                self.assertIs(is_placing(tasks, ONES, changed(good, (at,), item)), False)
        self.assertIs(is_placing(tasks, ONES, (True, False, 2)), False)
        self.assertIs(is_placing(tasks, ONES, (1.0, 0, 2)), False)


if __name__ == "__main__":
    unittest.main()
