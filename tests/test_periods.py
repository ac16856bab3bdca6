"""[38], [39], [40]: beats and when they meet, all weeks at once, phases for periods."""

import itertools
import math
import random
import unittest
from fractions import Fraction

from besthours.errors import BadParameter, BadPeriods, NoRow, TooGreat
from besthours.periods import (
    all_fit, chain_phases, first_meeting, fits, follows, held, is_chain, meets, most_at_once, round_length, unrolled,
)
from samples import Case, NO_INTEGERS, NO_TUPLES, ODD, Odd, changed


def is_held(beat, week):
    """By going through the weeks of the beat."""
    return week in range(beat[1], week + 1, beat[0])


def weeks_of(beat, many):
    return set(range(beat[1], many, beat[0]))


def held_by_hand(beats, week):
    return tuple(number for number, beat in enumerate(beats) if is_held(beat, week))


def round_by_hand(periods):
    weeks = 1
    while any(weeks % period for period in periods):
        weeks += 1
    return weeks


def fit_by_hand(beats, rooms):
    weeks = round_by_hand([period for period, _ in beats])
    return all(len(held_by_hand(beats, week)) <= rooms for week in range(weeks))


def all_beats(period):
    return [(period, phase) for phase in range(period)]


class Pairs(Case):
    def test_held(self):
        beats = ((1, 0), (2, 0), (2, 1), (3, 2), (24, 23))
        for week, wanted in (
            (0, (0, 1)), (1, (0, 2)), (2, (0, 1, 3)), (23, (0, 2, 3, 4)), (24, (0, 1)), (10 ** 30 + 1, (0, 2, 3)),
        ):
            self.assertEqual(held(beats, week), wanted)
        self.assertEqual(held(week=7, beats=()), ())
        for week in range(200):
            self.assertEqual(held(beats, week), held_by_hand(beats, week))
        self.unchangeable(held(beats, 5))

    def test_all_pairs_of_periods(self):
        # week by week over the product of both; all phases of periods to 24 that are near each other, or far
        for one, other in itertools.product(range(1, 25), repeat=2):
            whole = one * other
            seconds = [(beat, weeks_of(beat, whole + 1)) for beat in all_beats(other)]
            for first in all_beats(one)[::1 if one <= 8 else 3]:
                mine = weeks_of(first, whole + 1)
                later = {week + 1 for week in mine}
                for second, theirs in seconds[::1 if other <= 8 else 3]:
                    both = mine & theirs
                    self.assertIs(meets(first, second), bool(both))
                    self.assertIs(follows(first, second), bool(later & theirs))
                    if both:
                        self.assertEqual(first_meeting(first, second), min(both))
                    else:
                        self.refused(NoRow, {}, first_meeting, first, second)

    def test_rests(self):
        for first, second in itertools.product(all_beats(4) + all_beats(6), all_beats(6) + all_beats(9)):
            common = math.gcd(first[0], second[0])
            self.assertIs(meets(first, second), first[1] % common == second[1] % common)
            self.assertIs(follows(first, second), (second[1] - 1) % common == first[1] % common)
            if meets(first, second):
                week, weeks = first_meeting(first, second), math.lcm(first[0], second[0])
                self.assertEqual(
                    [one for one in range(3 * weeks) if len(held((first, second), one)) == 2],
                    [week, week + weeks, week + 2 * weeks])

    def test_by_hand(self):
        self.assertIs(meets((2, 0), (2, 1)), False)
        self.assertIs(follows((2, 0), (2, 1)), True)
        self.assertIs(follows((2, 0), (2, 0)), False)
        self.assertIs(follows((1, 0), (1, 0)), True)
        self.assertEqual(first_meeting((23, 22), (24, 23)), 551)
        self.assertEqual(first_meeting(other=(3, 2), one=(2, 1)), 5)


class Rounds(Case):
    def judge(self, beats):
        weeks = round_by_hand([period for period, _ in beats])
        self.assertEqual(round_length(beats), weeks)
        wanted = tuple(held_by_hand(beats, week) for week in range(weeks))
        self.assertEqual(unrolled(beats), wanted)
        self.unchangeable(unrolled(beats))
        most = max(len(row) for row in wanted)
        self.assertEqual(most_at_once(beats), most)
        for rooms in range(len(beats) + 1):
            self.assertIs(fits(beats, rooms), most <= rooms)
        pairs = itertools.combinations(beats, 2)
        self.assertIs(fits(beats, 1), not any(meets(one, other) for one, other in pairs))
        # the next round is the same again
        for week in range(0, weeks, 1 + weeks // 7):
            self.assertEqual(held(beats, week + weeks), wanted[week])

    def test_drawn(self):
        chance = random.Random(391)
        for _ in range(400):
            periods = [chance.choice((1, 2, 3, 4, 6, 8, 12, chance.randint(1, 10))) for _ in range(chance.randint(0, 6))]
            self.judge(tuple((period, chance.randrange(period)) for period in periods))

    def test_by_hand(self):
        self.assertEqual((round_length(()), unrolled(()), most_at_once(())), (1, ((),), 0))
        self.assertIs(fits((), 0), True)
        three = ((2, 0), (2, 0), (2, 1))
        self.assertIs(fits(three, 2), True)
        self.assertIs(fits(three, 1), False)
        self.assertIs(fits(rooms=0, beats=((24, 5),)), False)
        self.assertEqual(unrolled(((2, 1), (3, 0))), ((1,), (0,), (), (0, 1), (), (0,)))
        self.assertIs(fits(((1, 0),) * 40, 40), True)
        self.assertIs(fits(((1, 0),) * 40, 39), False)

    def test_the_greatest_round(self):
        let = ((8, 7), (9, 8), (5, 4), (7, 6))
        self.assertEqual(round_length(let), 2520)
        self.assertEqual(len(unrolled(let)), 2520)
        self.assertEqual(most_at_once(let), 4)
        self.assertIs(fits(let, 3), False)
        # all of them at once in the last week alone
        self.assertEqual([week for week, row in enumerate(unrolled(let)) if len(row) == 4], [2519])
        for beats in (let + ((16, 0),), ((11, 0), (23, 0), (10, 0)), ((24, 0), (23, 0), (19, 0)), let + ((11, 10),)):
            self.assertGreater(math.lcm(*(period for period, _ in beats)), 2520)
            self.refused(TooGreat, {"most": 2520}, round_length, beats)
            self.refused(TooGreat, {"most": 2520}, unrolled, beats)
            self.refused(TooGreat, {"most": 2520}, most_at_once, beats)
            self.refused(TooGreat, {"most": 2520}, fits, beats, 40)
            self.refused(BadParameter, {"value": 41}, fits, beats, 41)
            self.assertEqual(held(beats, 0), held_by_hand(beats, 0))
        self.assertEqual(round_length(((23, 0), (24, 0), (4, 1))), 552)


class Phases(Case):
    def least_by_hand(self, periods, rooms):
        """The least phases that fit, by trying all; None without any."""
        for phases in itertools.product(*(range(period) for period in periods)):
            if fit_by_hand(tuple(zip(periods, phases)), rooms):
                return phases
        return None

    def judge(self, periods, rooms):
        wanted = self.least_by_hand(periods, rooms)
        if wanted is None:
            self.refused(NoRow, {}, all_fit, periods, rooms)
        else:
            self.assertEqual(all_fit(periods, rooms), wanted)
            self.unchangeable(all_fit(periods, rooms))
            self.assertIs(fits(tuple(zip(periods, wanted)), rooms), True)
        return wanted

    def test_examples(self):
        self.assertEqual(all_fit((4, 6), 1), (0, 1))
        self.refused(NoRow, {}, all_fit, (2, 4, 6), 1)
        self.refused(NoRow, {}, all_fit, (2, 3), 1)
        self.assertEqual(all_fit(rooms=0, periods=()), ())
        self.refused(NoRow, {}, all_fit, (1,), 0)
        self.assertEqual(all_fit((1,) * 40, 40), (0,) * 40)
        self.refused(NoRow, {}, all_fit, (1,) * 40, 39)

    def test_all_phases(self):
        chance = random.Random(401)
        none = 0
        for _ in range(500):
            periods = []
            for _ in range(chance.randint(0, 6)):
                period = chance.choice((1, 2, 2, 3, 4, 4, 5, 6, 8))
                if math.prod(periods) * period <= 150:
                    periods.append(period)
            none += self.judge(tuple(periods), chance.choice((0, 1, 1, 1, 2, 3))) is None
        self.assertGreater(none, 80)

    def test_rows_let_and_more_refused(self):
        # 5,000 rows: 2 * 4 * 25 * 25 has no periods to 24, 20 * 10 * 5 * 5 has
        self.assertEqual(all_fit((20, 10, 5, 5), 1), (0, 1, 2, 3))
        self.assertEqual(all_fit((5, 5, 10, 20), 1), (0, 1, 2, 3))
        self.assertEqual(all_fit((5, 5, 10, 20) + (1,) * 36, 37), (0, 1, 2, 3) + (0,) * 36)
        self.assertEqual(all_fit((20, 10, 5, 5), 40), (0, 0, 0, 0))
        # the next number that is a product of periods is 5,005
        for periods in ((5, 7, 11, 13), (2,) * 13, (24, 23, 10), (24,) * 40, (1,) * 36 + (13, 7, 11, 5)):
            self.refused(TooGreat, {"most": 5000}, all_fit, periods, 1)
            self.refused(TooGreat, {"most": 5000}, all_fit, periods, 40)
            self.refused(BadParameter, {"value": -1}, all_fit, periods, -1)
        # few rows, but too many weeks
        self.refused(TooGreat, {"most": 2520}, all_fit, (17, 19, 13), 1)
        self.refused(TooGreat, {"most": 2520}, all_fit, (17, 19, 13), 3)
        self.assertEqual(all_fit((24, 23, 4), 3), (0, 0, 0))

    def test_many_rows_without_any_that_fits(self):
        # each row falls in the last period alone, or those of every week leave no room
        self.refused(NoRow, {}, all_fit, (2,) * 12, 5)
        self.assertEqual(all_fit((2,) * 12, 6), (0,) * 6 + (1,) * 6)
        self.refused(NoRow, {}, all_fit, (24, 23, 9) + (1,) * 37, 38)
        self.refused(NoRow, {}, all_fit, (1,) * 20 + (24, 23, 9) + (1,) * 17, 37)
        self.assertEqual(all_fit((1, 2, 1, 2, 1), 4), (0, 0, 0, 1, 0))


class Chains(Case):
    def phases_by_hand(self, periods, rooms):
        """Beats by ascending periods, each with the least phase that fits beside those before."""
        taken, phases = (), {}
        for number in sorted(range(len(periods)), key=lambda number: (periods[number], number)):
            fitting = [beat for beat in all_beats(periods[number]) if fit_by_hand(taken + (beat,), rooms)]
            taken += (fitting[0],)
            phases[number] = fitting[0][1]
        return tuple(phases[number] for number in range(len(periods)))

    def judge(self, periods, rooms):
        share = sum((Fraction(1, period) for period in periods), Fraction(0))
        found = chain_phases(periods, rooms)
        self.unchangeable(found)
        if share > rooms:
            self.assertEqual(found, ("share", share.numerator, share.denominator))
            return "share"
        self.assertEqual(found, ("phases", self.phases_by_hand(periods, rooms)))
        self.assertIs(fits(tuple(zip(periods, found[1])), rooms), True)
        return "phases"

    def test_examples(self):
        self.assertEqual(chain_phases((4, 2, 4), 1), ("phases", (1, 0, 3)))
        self.assertEqual(chain_phases((2, 2, 4), 1), ("share", 5, 4))
        self.assertEqual(chain_phases((), 0), ("phases", ()))
        self.assertEqual(chain_phases((7,), 0), ("share", 1, 7))
        self.assertEqual(chain_phases((7,), 1), ("phases", (0,)))
        self.assertEqual(chain_phases((1,) * 40, 40), ("phases", (0,) * 40))
        self.assertEqual(chain_phases((1,) * 40, 39), ("share", 40, 1))
        self.assertEqual(chain_phases(rooms=1, periods=(24,) * 24), ("phases", tuple(range(24))))
        self.assertEqual(chain_phases((24,) * 25, 1), ("share", 25, 24))

    def test_chains_in_any_order(self):
        chance = random.Random(402)
        words = []
        for _ in range(600):
            chain = chance.choice(((1, 2, 4, 8, 16), (1, 3, 6, 12, 24), (2, 6, 18), (5, 10, 20), (1, 2, 4, 12, 24), (3, 9, 18)))
            periods = [chance.choice(chain) for _ in range(chance.randint(0, 8))]
            self.assertIs(is_chain(tuple(periods)), True)
            words.append(self.judge(tuple(periods), chance.choice((0, 1, 1, 2, 3))))
        self.assertGreater(words.count("share"), 100)
        self.assertGreater(words.count("phases"), 100)

    def test_fit_exactly_if_the_share_lets(self):
        chance = random.Random(403)
        for _ in range(200):
            periods = tuple(chance.choice((1, 2, 4, 8)) for _ in range(chance.randint(0, 4)))
            rooms = chance.randint(0, 3)
            if chain_phases(periods, rooms)[0] == "share":
                self.refused(NoRow, {}, all_fit, periods, rooms)
            else:
                self.assertIs(fits(tuple(zip(periods, all_fit(periods, rooms))), rooms), True)

    def test_is_chain(self):
        for periods, wanted in (
            ((), True), ((13,), True), ((2, 3), False), ((4, 2, 4), True), ((24, 1, 8, 2), True), ((6, 4), False),
            ((2, 4, 6), False), ((12, 6, 3, 1, 3), True), ((1,) * 40, True), ((24, 23), False), ((5, 5, 10, 15), False),
        ):
            self.assertIs(is_chain(periods), wanted)
            for order in itertools.islice(itertools.permutations(periods), 24):
                self.assertIs(is_chain(periods=order), wanted)
                if not wanted:
                    self.refused(BadPeriods, {"place": ()}, chain_phases, order, 1)
                    self.refused(BadPeriods, {"place": ()}, chain_phases, order, 0)


NO_BEATS = NO_TUPLES + (
    None, (), (1,), (1, 0, 0), [1, 0], (0, 0), (25, 0), (1, 1), (24, 24), (3, -1), (-3, 0), (True, 0), (2, True),
    (2, False), (2.0, 0), (2, 0.0), (Odd(), 0), (2, Odd()), (None, 0), (2, None), ("2", 0), ((2, 0),))


class Wrong(Case):
    def test_single_beats(self):
        for beat in NO_BEATS:
            for function in (meets, first_meeting, follows):
                self.refused(BadParameter, {"value": beat}, function, beat, None)
                self.refused(BadParameter, {"value": beat}, function, beat, (2, 0))
                self.refused(BadParameter, {"value": beat}, function, (2, 0), beat)

    def test_beats(self):
        for function, more in (
            (held, (None,)), (held, (0,)), (round_length, ()), (unrolled, ()), (most_at_once, ()), (fits, (None,)),
            (fits, (1,)),
        ):
            for beats in NO_TUPLES + (None, ((1, 0),) * 41, [(1, 0)]):
                self.refused(BadPeriods, {"place": ()}, function, beats, *more)
            for beat in NO_BEATS:
                self.refused(BadPeriods, {"place": (0,)}, function, (beat,), *more)
                self.refused(BadPeriods, {"place": (1,)}, function, ((2, 1), beat, beat), *more)
                self.refused(BadPeriods, {"place": (39,)}, function, ((2, 1),) * 39 + (beat,), *more)

    def test_weeks_and_rooms(self):
        for week in NO_INTEGERS + (None, -1):
            self.refused(BadParameter, {"value": week}, held, ((2, 0),), week)
        for rooms in NO_INTEGERS + (None, -1, 41):
            self.refused(BadParameter, {"value": rooms}, fits, ((2, 0),), rooms)
            self.refused(BadParameter, {"value": rooms}, all_fit, (2, 3), rooms)
            self.refused(BadParameter, {"value": rooms}, all_fit, (24,) * 40, rooms)
            self.refused(BadParameter, {"value": rooms}, chain_phases, (2, 4), rooms)
            self.refused(BadParameter, {"value": rooms}, chain_phases, (2, 3), rooms)

    def test_periods(self):
        for function, more in (
            (all_fit, (None,)), (all_fit, (1,)), (is_chain, ()), (chain_phases, (None,)), (chain_phases, (1,)),
        ):
            for periods in NO_TUPLES + (None, (1,) * 41, [1, 2]):
                self.refused(BadPeriods, {"place": ()}, function, periods, *more)
            for period in NO_INTEGERS + (None, 0, 25, -1):
                self.refused(BadPeriods, {"place": (0,)}, function, (period,), *more)
                self.refused(BadPeriods, {"place": (2,)}, function, (3, 2, period, period), *more)

    def test_odd_things(self):
        for value in ODD:
            self.refused(BadPeriods, {"place": (0,)}, fits, ((value, value),), value)
            self.assertRaises(BadPeriods, is_chain, changed((1, 2), (1,), value))


if __name__ == "__main__":
    unittest.main()
