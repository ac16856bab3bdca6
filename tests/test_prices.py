"""[36], [37]: the cheapest placings, bears that bear their price, and bears as proofs."""

import itertools
import unittest

from besthours.errors import BadParameter, NoRow
from besthours.matchings import hour_sums, is_lot, is_placing
from besthours.prices import bears_steps, borne, cheapest, is_bears, least_cheapest
from besthours.sums import form_of
from placements import Drawer, led, placings
from samples import Case, NO_INTEGERS, NO_TUPLES, ODD, Odd, changed

# the example of the document
TWO = (((0, 1), (1, 5)), ((0, 2), (1, 3)))
ONES = (1, 1)
BEARS = ((2, 3), (1, 0))


def tasks_of(prices):
    return tuple(tuple(hour for hour, _ in pairs) for pairs in prices)


def price_at(prices, hours):
    return sum(dict(pairs)[hour] for pairs, hour in zip(prices, hours))


def ranked(prices, rooms):
    """(PRICE, PLACING) of all placings, the cheapest one first."""
    return sorted((price_at(prices, hours), hours) for hours in placings(tasks_of(prices), rooms))


def are_bears(prices, rooms, bears):
    bids, tolls = bears
    return min(tolls) >= 0 and all(
        bids[task] <= price + tolls[hour] for task, pairs in enumerate(prices) for hour, price in pairs)


def number_of(rooms, bears):
    return sum(bears[0]) - sum(many * toll for many, toll in zip(rooms, bears[1]))


class Priced(Drawer):
    def prices(self, least=0, most=4, hours=4, dear=9):
        return tuple(
            tuple((hour, self.chance.randint(0, dear)) for hour in own) for own in self.tasks(least, most, hours))

    def bears(self, prices, rooms, most=9):
        """Some bears: as great bids as the tolls let, or lesser ones."""
        tolls = tuple(self.chance.choice((0, 0, self.chance.randint(0, most))) for _ in rooms)
        bids = []
        for pairs in prices:
            top = min([price + tolls[hour] for hour, price in pairs], default=5)
            bids.append(top - self.chance.choice((0, 0, 0, 1, 7)))
        return (tuple(bids), tolls)


class Cheapest(Case):
    def judge(self, prices, rooms):
        """The answers, judged by all placings."""
        wanted = ranked(prices, rooms)
        found = cheapest(prices, rooms)
        self.unchangeable(found)
        if not wanted:
            self.assertEqual((found[0], len(found)), ("lot", 2))
            self.assertIs(is_lot(tasks_of(prices), rooms, found[1]), True)
            self.refused(NoRow, {}, least_cheapest, prices, rooms)
            return found
        word, placing, price, bears = found
        self.assertEqual((word, price), ("plan", wanted[0][0]))
        self.assertIs(is_placing(tasks_of(prices), rooms, placing), True)
        self.assertEqual(price_at(prices, placing), price)
        self.assertTrue(are_bears(prices, rooms, bears))
        self.assertEqual(number_of(rooms, bears), price)
        self.assertIs(is_bears(prices, rooms, bears), True)
        self.assertEqual(borne(prices, rooms, bears), price)
        self.assertEqual(least_cheapest(prices, rooms), wanted[0][1])
        self.unchangeable(least_cheapest(prices, rooms))
        return found

    def test_example(self):
        found = self.judge(TWO, ONES)
        self.assertEqual(found[1:3], ((0, 1), 4))
        self.assertIs(is_bears(TWO, ONES, BEARS), True)
        self.assertEqual(borne(TWO, ONES, BEARS), 4)

    def test_by_hand(self):
        for prices, rooms, wanted in (
            ((((0, 7),),), (1,), (7, (0,))), ((((0, 0),),), (1,), (0, (0,))), ((((0, 7),),), (0,), None),
            (((),), (1,), None), ((((0, 7), (1, 7)),), (1, 1), (7, (0,))), ((((0, 7), (1, 6)),), (1, 1), (6, (1,))),
            ((((0, 7), (1, 6)),), (1, 0), (7, (0,))), ((((0, 0), (1, 1)),) * 3, (2, 1), (1, (0, 0, 1))),
            ((((0, 10 ** 6),),) * 60, (60,), (6 * 10 ** 7, (0,) * 60)),
            ((((0, 0), (1, 5)), ((0, 0), (1, 9)), ((0, 3), (1, 3))), (1, 2), (8, (1, 0, 1))),
        ):
            found = cheapest(prices, rooms)
            if wanted is None:
                self.assertEqual(found[0], "lot")
            else:
                self.assertEqual((found[2], least_cheapest(prices, rooms)), wanted)
                self.assertEqual(borne(prices, rooms, found[3]), wanted[0])

    def test_all_placings(self):
        drawer = Priced(361)
        words = []
        for turn in range(2500):
            prices = drawer.prices(dear=(1, 9, 10 ** 6)[turn % 3])
            words.append(self.judge(prices, drawer.rooms(tasks_of(prices)))[0])
        self.assertGreater(words.count("plan"), 500)
        self.assertGreater(words.count("lot"), 500)

    def test_no_bears_bear_more(self):
        drawer = Priced(362)
        tried = 0
        while tried < 400:
            prices = drawer.prices()
            rooms = drawer.rooms(tasks_of(prices))
            bears = drawer.bears(prices, rooms)
            self.assertIs(is_bears(prices, rooms, bears), True)
            self.assertEqual(borne(prices, rooms, bears), number_of(rooms, bears))
            for price, _ in ranked(prices, rooms):
                self.assertLessEqual(borne(prices, rooms, bears), price)
                tried += 1

    def test_hours_without_rooms(self):
        # tolls of hours without rooms cost nothing, and cheap hours without rooms are no bargain
        prices, rooms = (((0, 0), (1, 8)), ((0, 0), (1, 9))), (0, 2)
        found = self.judge(prices, rooms)
        self.assertEqual(found[1:3], ((1, 1), 17))
        self.assertEqual(borne(prices, rooms, ((8, 9), (9, 0))), 17)
        self.assertIs(is_bears(prices, rooms, ((8, 9), (8, 0))), False)


class Great(Case):
    """Sixty tasks and a hundred hours."""

    def shown(self, prices, rooms):
        """A placing and bears of one number show that both are best."""
        word, placing, price, bears = cheapest(prices, rooms)
        self.assertEqual(word, "plan")
        self.assertIs(is_placing(tasks_of(prices), rooms, placing), True)
        self.assertTrue(are_bears(prices, rooms, bears))
        self.assertEqual((price_at(prices, placing), number_of(rooms, bears)), (price, price))
        least = least_cheapest(prices, rooms)
        self.assertIs(is_placing(tasks_of(prices), rooms, least), True)
        self.assertEqual(price_at(prices, least), price)
        self.assertLessEqual(least, placing)
        return least

    def test_drawn(self):
        drawer = Priced(363)
        for dear in (0, 1, 3, 10 ** 6):
            prices = tuple(
                tuple((hour, drawer.chance.randint(0, dear)) for hour in range(100)) for _ in range(60))
            for rooms in ((1,) * 60 + (0,) * 40, (0, 1, 2, 0) * 25, (60,) * 100):
                least = self.shown(prices, rooms)
                if rooms[0] == 60:
                    cheap = tuple(min(pairs, key=lambda pair: (pair[1], pair[0]))[0] for pairs in prices)
                    self.assertEqual(least, cheap)

    def test_hidden(self):
        drawer = Priced(364)
        for likely in (0.01, 0.05, 0.3):
            tasks, _ = drawer.hidden(60, 100, likely)
            prices = tuple(tuple((hour, drawer.chance.randint(0, 9)) for hour in own) for own in tasks)
            self.shown(prices, (1,) * 100)

    def test_the_least_by_asking_for_each_hour(self):
        drawer = Priced(365)
        tasks, _ = drawer.hidden(20, 25, 0.2)
        prices = tuple(tuple((hour, drawer.chance.randint(0, 2)) for hour in own) for own in tasks)
        rooms = (1,) * 25
        least = self.shown(prices, rooms)
        price = price_at(prices, least)
        for at in range(20):
            ahead = tuple(
                tuple(pair for pair in pairs if pair[0] == hour) for pairs, hour in zip(prices[:at], least[:at]))
            lesser = tuple(pair for pair in prices[at] if pair[0] < least[at])
            found = cheapest(ahead + (lesser,) + prices[at + 1:], rooms)
            self.assertTrue(found[0] == "lot" or found[2] > price)

    def test_a_planted_lot(self):
        drawer = Priced(366)
        tasks, _ = drawer.hidden(60, 100, 0.3)
        prices = tuple(tuple((hour, drawer.chance.randint(0, 9)) for hour in own) for own in tasks)
        few = tuple((hour, 1) for hour in range(20))
        prices = tuple(few if task < 41 else pairs for task, pairs in enumerate(prices))
        word, lot = cheapest(prices, (2,) * 100)
        self.assertEqual(word, "lot")
        self.assertIs(is_lot(tasks_of(prices), (2,) * 100, lot), True)
        self.refused(NoRow, {}, least_cheapest, prices, (2,) * 100)
        self.shown(prices, changed((2,) * 100, (3,), 3))

    def test_like_the_best_plan(self):
        # thirteen tasks, so that the hungry way through all placings is not the only one
        for seed in range(4):
            drawer = Priced(seed)
            prices = tuple(tuple((hour, drawer.chance.randint(0, 20)) for hour in range(7)) for _ in range(6))
            wanted = min(
                (sum(dict(pairs)[hour] for pairs, hour in zip(prices, hours)), hours)
                for hours in itertools.permutations(range(7), 6))
            self.assertEqual(self.shown(prices, (1,) * 7), wanted[1])
            self.assertEqual(cheapest(prices, (1,) * 7)[2], wanted[0])


class Steps(Case):
    def steps_by_hand(self, prices, rooms, bears):
        """(STEPS, BOUND): the steps as the document tells them, and what the last sum's bound is ahead of its form."""
        tasks = tasks_of(prices)
        every = sorted({hour for own in tasks for hour in own})
        tolls = {
            hour: 0 if sum(hour in own for own in tasks) <= rooms[hour] else bears[1][hour] for hour in every}
        steps = [("demand", every.index(hour)) for hour in every if tolls[hour] > 0]
        many = len(steps)
        steps.append(("add", tuple(enumerate(tolls[hour] for hour in every if tolls[hour] > 0))))
        terms, whole = [], 0
        for task, pairs in enumerate(prices):
            least = min(price + tolls[hour] for hour, price in pairs)
            most = max(tolls[hour] for hour, _ in pairs)
            terms.append((task, tuple(price - least + most for _, price in pairs)))
            whole += least
        steps.append(("raise", many, tuple(terms)))
        return tuple(steps), whole - sum(tolls[hour] * rooms[hour] for hour in every)

    def judge(self, prices, rooms, bears):
        sizes = tuple(len(pairs) for pairs in prices)
        steps = bears_steps(prices, rooms, bears)
        self.unchangeable(steps)
        wanted, bound = self.steps_by_hand(prices, rooms, bears)
        self.assertEqual(steps, wanted)
        terms = tuple((task, tuple(price for _, price in pairs)) for task, pairs in enumerate(prices))
        number = borne(prices, rooms, bears)
        self.assertGreaterEqual(bound, number)
        last = led(sizes, hour_sums(tasks_of(prices), rooms), steps)[-1]
        self.assertEqual(last, form_of(sizes, terms, bound))
        return bound - number

    def test_example(self):
        steps = bears_steps(TWO, ONES, BEARS)
        self.assertEqual(steps, (
            ("demand", 0), ("add", ((0, 1),)), ("raise", 1, ((0, (0, 4)), (1, (0, 1))))))
        self.assertEqual(self.judge(TWO, ONES, BEARS), 0)
        last = led((2, 2), hour_sums(tasks_of(TWO), ONES), steps)[-1]
        self.assertEqual(last, form_of((2, 2), ((0, (1, 5)), (1, (2, 3))), 4))
        self.assertEqual(last, (((0, (0, 4)), (1, (0, 1))), 1))

    def test_without_tolls(self):
        # of no hours the sum is ((), 0), and so is the last one if each task costs its least price
        steps = bears_steps(TWO, ONES, ((1, 2), (0, 0)))
        self.assertEqual(steps, (("add", ()), ("raise", 0, ((0, (0, 4)), (1, (0, 1))))))
        self.assertEqual(led((2, 2), hour_sums(tasks_of(TWO), ONES), steps)[-1], ((), 0))
        # an hour with rooms for all has no toll
        self.assertEqual(bears_steps(TWO, (2, 1), ((1, 2), (5, 0)))[0], ("add", ()))

    def test_bears_of_cheapest(self):
        drawer = Priced(371)
        tried = 0
        while tried < 800:
            prices = drawer.prices(1)
            rooms = drawer.rooms(tasks_of(prices))
            found = cheapest(prices, rooms)
            if found[0] == "plan":
                tried += 1
                self.assertEqual(self.judge(prices, rooms, found[3]), 0)

    def test_other_bears(self):
        drawer = Priced(372)
        more = 0
        for turn in range(2000):
            prices = drawer.prices(1, dear=(3, 10 ** 6)[turn % 2])
            rooms = drawer.rooms(tasks_of(prices), 4)
            more += self.judge(prices, rooms, drawer.bears(prices, rooms, (3, 10 ** 9)[turn % 2])) > 0
        self.assertGreater(more, 200)

    def test_great(self):
        drawer = Priced(373)
        prices = tuple(tuple((hour, drawer.chance.randint(0, 50)) for hour in range(100)) for _ in range(60))
        rooms = (1, 0, 1, 0, 1) * 20
        self.assertEqual(self.judge(prices, rooms, cheapest(prices, rooms)[3]), 0)
        self.judge(prices, rooms, drawer.bears(prices, rooms, 10 ** 30))


class Bent(Case):
    def test_by_one_at_each_number(self):
        drawer = Priced(367)
        tried = [0, 0]
        for _ in range(300):
            prices = drawer.prices(1)
            rooms = drawer.rooms(tasks_of(prices))
            found = cheapest(prices, rooms)
            bears = found[3] if found[0] == "plan" else drawer.bears(prices, rooms)
            for part in (0, 1):
                for at in range(len(bears[part])):
                    for by in (-1, 1):
                        bent = changed(bears, (part, at), bears[part][at] + by)
                        wanted = are_bears(prices, rooms, bent)
                        tried[wanted] += 1
                        self.assertIs(is_bears(prices, rooms, bent), wanted)
                        if wanted:
                            self.assertEqual(borne(prices, rooms, bent), number_of(rooms, bent))
                        else:
                            self.refused(BadParameter, {"value": bent}, borne, prices, rooms, bent)
                            self.refused(BadParameter, {"value": bent}, bears_steps, prices, rooms, bent)
        self.assertGreater(min(tried), 300)


FUNCTIONS = (cheapest, is_bears, borne, least_cheapest, bears_steps)


class Wrong(Case):
    def args(self, function, prices, rooms):
        return (prices, rooms) if function in (cheapest, least_cheapest) else (prices, rooms, None)

    def test_prices(self):
        pairs = NO_TUPLES + (
            None, (), (0,), (0, 1, 2), [0, 1], (-1, 0), (100, 0), (0, -1), (0, 10 ** 6 + 1), (True, 1), (0, True),
            (0.0, 1), (0, 1.0), (Odd(), 1), (0, Odd()), (None, 1), (0, None), ("0", 1))
        wrong = NO_TUPLES + (None, (), ((),) * 61, (((0, 1),), None), [((0, 1),)])
        wrong += tuple(((pair,),) for pair in pairs) + tuple((((0, 1), pair), ((0, 1),)) for pair in pairs)
        wrong += ((((1, 0), (0, 0)),), (((0, 0), (0, 1)),), (((0, 1),), [(0, 1)]))
        for prices in wrong:
            for function in FUNCTIONS:
                for rooms in (None, ONES, True):
                    self.refused(BadParameter, {"value": prices}, function, *self.args(function, prices, rooms))

    def test_rooms(self):
        wrong = NO_TUPLES + (None, (), (1,), (1,) * 101, [1, 1], (1, None), (1, 61), (-1, 1))
        for rooms in wrong + tuple((item, 1) for item in NO_INTEGERS):
            for function in FUNCTIONS:
                self.refused(BadParameter, {"value": rooms}, function, *self.args(function, TWO, rooms))

    def test_tasks_without_a_pair(self):
        for prices in (((),), (((0, 1),), ()), ((), ((0, 1),))):
            for rooms in ((1,), None, (True,)):
                self.refused(BadParameter, {"value": prices}, bears_steps, prices, rooms, None)
            self.assertEqual(cheapest(prices, (1,))[0], "lot")
            # a task without a pair may bid whatever it likes
            bears = (tuple(1 if pairs else 10 ** 9 for pairs in prices), (0,))
            self.assertIs(is_bears(prices, (1,), bears), True)
            self.assertEqual(borne(prices, (1,), bears), sum(bears[0]))

    def test_bears(self):
        wrong = [None, (), (BEARS[0],), BEARS + ((),), list(BEARS), (list(BEARS[0]), BEARS[1]), *NO_TUPLES]
        for part in (0, 1):
            wrong += [changed(BEARS, (part,), value) for value in NO_TUPLES + (None, (), (1,), (1, 0, 0))]
            for at in (0, 1):
                wrong += [changed(BEARS, (part, at), value) for value in NO_INTEGERS + (None, Odd())]
        wrong += [changed(BEARS, (1, 1), -1), changed(BEARS, (0, 0), 3), changed(BEARS, (1, 0), False)]
        for bears in wrong:
            self.assertIs(is_bears(TWO, ONES, bears), False)
            self.refused(BadParameter, {"value": bears}, borne, TWO, ONES, bears)
            self.refused(BadParameter, {"value": bears}, bears_steps, TWO, ONES, bears)
        for bears in ((BEARS[0], (1, 10 ** 100)), ((-10 ** 100, 3), BEARS[1])):
            self.assertIs(is_bears(value=bears, rooms=ONES, prices=TWO), True)
            self.assertEqual(borne(bears=bears, rooms=ONES, prices=TWO), number_of(ONES, bears))
        self.assertFalse(any(is_bears(TWO, ONES, (value, value)) for value in ODD))


if __name__ == "__main__":
    unittest.main()
