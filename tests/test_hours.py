"""[9]: days and sets."""

import unittest

from besthours.errors import BadDays, BadParameter, BadSet, NoRow
from besthours.hours import day_hours, day_of, held_hours, hours_in, need_days, need_set
from samples import Case, NO_INTEGERS, NO_TUPLES

WRONG_DAYS = (
    (), (0,), (13,), (-1,), (1, 0), (12, 13), (1, 2, 3, 4, 5, 6, 7, 8), (1,) * 8, (True,), (1, False), (1.0,),
    ("1",), (None,), ((1,),), [1, 2], (10 ** 5000,), None,
)


class Days(Case):
    def test_need_days(self):
        for days in ((1,), (12,), (1, 12, 5), (12,) * 7, (1,) * 7):
            self.assertEqual(need_days(days), days)

    def test_wrong_days(self):
        for days in WRONG_DAYS + NO_TUPLES:
            self.refused(BadDays, {"value": days}, need_days, days)
            self.refused(BadDays, {"value": days}, hours_in, days)
            self.refused(BadDays, {"value": days}, day_of, days, "x")
            self.refused(BadDays, {"value": days}, day_hours, days, "x")
            self.refused(BadDays, {"value": days}, held_hours, days, "x", "x")

    def test_hours_in(self):
        self.assertEqual(hours_in((1,)), 1)
        self.assertEqual(hours_in((3, 2)), 5)
        self.assertEqual(hours_in((12,) * 7), 84)

    def test_day_of(self):
        self.assertEqual([day_of((3, 1, 2), hour) for hour in range(6)], [0, 0, 0, 1, 2, 2])
        self.assertEqual(day_of((12,) * 7, 83), 6)
        self.assertEqual(day_of((1,), 0), 0)

    def test_no_hour(self):
        for hour in (-1, 6, 7, 84, 10 ** 5000) + NO_INTEGERS + (None,):
            self.refused(BadParameter, {"value": hour}, day_of, (3, 1, 2), hour)

    def test_day_hours(self):
        self.assertEqual([day_hours((3, 1, 2), day) for day in range(3)], [(0, 1, 2), (3,), (4, 5)])
        self.assertEqual(day_hours((12,) * 7, 6), tuple(range(72, 84)))

    def test_no_day(self):
        for day in (-1, 3, 4, 10 ** 5000) + NO_INTEGERS + (None,):
            self.refused(BadParameter, {"value": day}, day_hours, (3, 1, 2), day)

    def test_day_hours_and_day_of_agree(self):
        for days in ((1,), (4,), (3, 2), (1, 1, 1), (12, 1, 7, 2, 3, 12, 5)):
            together = [day_hours(days, day) for day in range(len(days))]
            self.assertEqual([hour for hours in together for hour in hours], list(range(hours_in(days))))
            for day, hours in enumerate(together):
                self.assertEqual([day_of(days, hour) for hour in hours], [day] * days[day])


class Held(Case):
    def test_example(self):
        self.assertEqual(held_hours((3, 2), 2, 3), (3, 4))

    def test_held(self):
        self.assertEqual(held_hours((3, 2), 1, 2), (2,))
        self.assertEqual(held_hours((3, 2), 3, 0), (0, 1, 2))
        self.assertEqual(held_hours((3, 4), 4, 3), (3, 4, 5, 6))
        self.assertEqual(held_hours((12,) * 7, 4, 80), (80, 81, 82, 83))

    def test_not_of_one_day(self):
        for days, length, hour in (
            ((3, 2), 2, 2), ((3, 2), 2, 4), ((3, 2), 3, 1), ((3, 2), 3, 3), ((3, 2), 4, 0), ((1,), 2, 0),
            ((12,) * 7, 4, 81), ((1, 1, 1, 1), 4, 0),
        ):
            self.refused(NoRow, {}, held_hours, days, length, hour)

    def test_by_hand(self):
        days = (3, 1, 4)
        for length in (1, 2, 3, 4):
            for hour in range(8):
                end = hour + length - 1
                if end < 8 and day_of(days, hour) == day_of(days, end):
                    self.assertEqual(held_hours(days, length, hour), tuple(range(hour, end + 1)))
                else:
                    self.refused(NoRow, {}, held_hours, days, length, hour)

    def test_wrong_length_comes_first(self):
        for length in (0, -1, 5, 10 ** 5000, None) + NO_INTEGERS:
            self.refused(BadParameter, {"value": length}, held_hours, (3, 2), length, "hour")
            self.refused(BadParameter, {"value": length}, held_hours, (3, 2), length, 0)

    def test_wrong_hour(self):
        for hour in (-1, 5, 6, 10 ** 5000, None) + NO_INTEGERS:
            self.refused(BadParameter, {"value": hour}, held_hours, (3, 2), 4, hour)


class Sets(Case):
    def test_sets(self):
        for value in ((), (0,), (5,), (0, 5), (0, 1, 2, 3, 4, 5)):
            self.assertEqual(need_set(value, 5), value)
        self.assertEqual(need_set((), 0), ())
        self.assertEqual(need_set((0,), 0), (0,))
        self.assertEqual(need_set((0, 10 ** 6), 10 ** 6), (0, 10 ** 6))

    def test_no_sets(self):
        for value in (
            (6,), (-1,), (0, 6), (0, 0), (1, 0), (0, 2, 1), (0, 2, 2), (True,), (0, True), (False,), (None,),
            ((),), (1.0,), ("1",), (10 ** 5000,), None,
        ) + NO_TUPLES:
            self.refused(BadSet, {"value": value}, need_set, value, 5)
        self.refused(BadSet, {"value": (1,)}, need_set, (1,), 0)
        self.refused(BadSet, {"value": (10 ** 6 + 1,)}, need_set, (10 ** 6 + 1,), 10 ** 6)

    def test_wrong_most_comes_first(self):
        for most in (-1, 10 ** 6 + 1, 10 ** 5000, None) + NO_INTEGERS:
            self.refused(BadParameter, {"value": most}, need_set, "no set", most)
            self.refused(BadParameter, {"value": most}, need_set, (), most)


if __name__ == "__main__":
    unittest.main()
