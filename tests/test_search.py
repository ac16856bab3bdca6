"""[25] to [28]: narrowing, search, proofs without a row, and the states of the search."""

import itertools
import random
import unittest
from unittest import mock

from besthours import cuts, engine, store
from besthours.errors import BadParameter, BadSum
from besthours.search import is_refuted, narrowed, search, search_after, search_under
from besthours.steps import added, capped, divided, raised
from besthours.sums import form_of, greatest_under, kept_by
from samples import Case, NO_INTEGERS, NO_TUPLES, Odd, changed
from test_sums import WRONG_SIZES, WRONG_SUMS, SIZES as WIDE

GREAT = 10 ** 5000
EXAMPLE = ((2, 2), ((((0, (0, 1)), (1, (0, 1))), 1), (((0, (1, 0)), (1, (1, 0))), 1)))


def rows_of(sizes, sums, fixed=()):
    """All rows that keep the sums and lie in fixed, ascending."""
    let = dict(fixed)
    return [
        row for row in itertools.product(*(let.get(choice, range(many)) for choice, many in enumerate(sizes)))
        if all(sum(weights[row[choice]] for choice, weights in terms) >= bound for terms, bound in sums)
    ]


def led(sizes, sums, steps):
    """The sums of steps without given ones, led one by one by the functions of besthours.steps."""
    found = []
    for step in steps:
        if step[0] == "demand":
            found.append(sums[step[1]])
        elif step[0] == "add":
            found.append(added(sizes, tuple((found[number], times) for number, times in step[1])))
        elif step[0] == "divide":
            found.append(divided(sizes, found[step[1]], step[2]))
        elif step[0] == "cap":
            found.append(capped(sizes, found[step[1]]))
        else:
            assert step[0] == "raise", step
            found.append(raised(sizes, found[step[1]], step[2]))
    return found


def sets_of(sizes, fixed=()):
    let = dict(fixed)
    return tuple(let.get(choice, tuple(range(many))) for choice, many in enumerate(sizes))


class Problems:
    """Small problems by a fixed rule."""

    def __init__(self, seed):
        self.chance = random.Random(seed)

    def sizes(self):
        return tuple(self.chance.randint(1, 4) for _ in range(self.chance.randint(1, 4)))

    def sums(self, sizes, most_sums=6):
        most = self.chance.choice((1, 1, 2, 5, 10 ** 21))
        found = []
        for _ in range(self.chance.randint(0, most_sums)):
            terms = tuple(
                (choice, tuple(self.chance.choice((0, self.chance.randint(0, most))) for _ in range(many)))
                for choice, many in enumerate(sizes) if self.chance.random() < 0.7)
            found.append(form_of(sizes, terms, self.chance.randint(0, most * max(1, len(terms) - 1))))
        return tuple(found)

    def fixed(self, sizes):
        return tuple(
            (choice, tuple(sorted(self.chance.sample(range(many), self.chance.randint(1, many)))))
            for choice, many in enumerate(sizes) if self.chance.random() < 0.4)

    def problem(self):
        sizes = self.sizes()
        return sizes, self.sums(sizes), self.chance.choice(((), self.fixed(sizes)))


def narrowed_by_hand(sizes, sums, fixed):
    sets = [list(those) for those in sets_of(sizes, fixed)]
    while True:
        gone = None
        for terms, bound in sums:
            tops = {choice: max(weights[value] for value in sets[choice]) for choice, weights in terms}
            if sum(tops.values()) < bound:
                return None
            for choice, weights in terms:
                for value in sets[choice]:
                    if weights[value] + sum(tops.values()) - tops[choice] < bound:
                        gone = (choice, value)
        if gone is None:
            return tuple(tuple(those) for those in sets)
        sets[gone[0]].remove(gone[1])


class Narrowed(Case):
    def test_by_hand(self):
        self.assertEqual(narrowed(*EXAMPLE, ()), ((0, 1), (0, 1)))
        self.assertEqual(narrowed(*EXAMPLE, ((0, (0,)),)), ((0,), (1,)))
        self.assertIsNone(narrowed(*EXAMPLE, ((0, (0,)), (1, (0,)))))
        self.assertEqual(narrowed((), (), ()), ())
        self.assertIsNone(narrowed((), (((), 1),), ()))
        self.assertEqual(narrowed((), (((), 0),), ()), ())
        self.assertEqual(narrowed((3, 200), ((((0, (5, 0, 9)), (1, (0,) * 199 + (4,))), 9),), ()), ((0, 2), tuple(range(200))))
        self.assertEqual(narrowed((3, 200), ((((0, (5, 0, 9)), (1, (0,) * 199 + (4,))), 10),), ()), ((2,), (199,)))
        self.unchangeable(narrowed(*EXAMPLE, ()))

    def test_one_after_the_other(self):
        # unequal neighbours, the first one held: all follow
        sizes = (2,) * 100
        sums = tuple((((choice, weights), (choice + 1, weights)), 1) for choice in range(99) for weights in ((0, 1), (1, 0)))
        self.assertEqual(narrowed(sizes, sums, ((0, (1,)),)), tuple((1 - choice % 2,) for choice in range(100)))
        self.assertEqual(narrowed(sizes, sums[::-1], ((99, (1,)),)), tuple((choice % 2,) for choice in range(100)))
        self.assertIsNone(narrowed(sizes, sums, ((0, (1,)), (98, (0,)))))

    def test_by_chance(self):
        problems = Problems(1)
        none = 0
        for _ in range(1500):
            sizes, sums, fixed = problems.problem()
            wanted = narrowed_by_hand(sizes, sums, fixed)
            none += wanted is None
            self.assertEqual(narrowed(sizes, sums, fixed), wanted)
            self.assertEqual(narrowed(sizes, sums[::-1], fixed), wanted)
        self.assertTrue(100 < none < 1400)


class Searched(Case):
    def check(self, sizes, sums, fixed):
        rows = rows_of(sizes, sums, fixed)
        found = search_under(sizes, sums, fixed)
        self.unchangeable(found)
        if fixed == ():
            self.assertEqual(search(sizes, sums)[0], found[0])
        if rows:
            self.assertEqual(found, ("row", rows[0]))
            self.assertIs(is_refuted(sizes, sums, fixed, (("add", ()),)), False)
        else:
            self.proof(sizes, sums, fixed, found)
        return found

    def proof(self, sizes, sums, fixed, found):
        word, steps = found
        self.assertEqual((word, len(found)), ("proof", 2))
        self.assertIs(is_refuted(sizes, sums, fixed, steps), True)
        last = led(sizes, sums, steps)[-1]
        self.assertLess(greatest_under(sizes, last, sets_of(sizes, fixed)), last[1])
        if fixed == ():
            self.assertEqual(last[0], ())

    def test_example(self):
        self.assertEqual(search(*EXAMPLE), ("row", (0, 1)))
        self.assertEqual(search_under(*EXAMPLE, ((1, (0,)),)), ("row", (1, 0)))
        self.assertEqual(search_under(*EXAMPLE, ((0, (1,)), (1, (1,))))[0], "proof")

    def test_nothing(self):
        self.assertEqual(search((), ()), ("row", ()))
        self.assertEqual(search((3, 1), ()), ("row", (0, 0)))
        self.assertEqual(search_under((3, 1), (), ((0, (1, 2)),)), ("row", (1, 0)))
        self.assertEqual(search((3, 1), (((), 0),)), ("row", (0, 0)))
        self.assertEqual(search((), (((), 1),)), ("proof", (("demand", 0),)))
        self.assertEqual(search((200,), ((((0, (0,) * 199 + (1,)),), 1),)), ("row", (199,)))

    def test_all_rows(self):
        problems = Problems(2)
        words = {"row": 0, "proof": 0}
        for _ in range(3000):
            words[self.check(*problems.problem())[0]] += 1
        self.assertGreater(min(words.values()), 500)

    def test_more_sums_than_can_be_narrowed(self):
        # parity: each three of six choices have an even number of ones, and all of them an odd one
        sizes = (2,) * 5
        sums = []
        for odd in itertools.product((0, 1), repeat=5):
            if sum(odd) % 2:
                # not just this row
                sums.append((tuple((choice, (value, 1 - value)) for choice, value in enumerate(odd)), 1))
        self.check(sizes, tuple(sums), ())
        for odd in itertools.product((0, 1), repeat=5):
            if not sum(odd) % 2:
                sums.append((tuple((choice, (value, 1 - value)) for choice, value in enumerate(odd)), 1))
        self.check(sizes, tuple(sums), ())

    def test_alike_at_each_value(self):
        # the same with one more choice of three values and sums that name it
        problems = Problems(3)
        for _ in range(300):
            sizes, sums, fixed = problems.problem()
            self.check(sizes + (3,), sums, fixed)
            self.check((3,) + sizes, tuple(
                (tuple((choice + 1, weights) for choice, weights in terms), bound) for terms, bound in sums), ())


class Starts(Searched):
    """The same problems with few sums between fresh starts, and few that are kept."""

    def test_all_rows(self):
        problems = Problems(7)
        with mock.patch.multiple(engine, FIRST_START=1, START_PART=4, FIRST_LEARNT=2, MORE_LEARNT=1):
            for _ in range(400):
                sizes, sums, fixed = problems.problem()
                self.check(sizes + (3,), sums + problems.sums(sizes, 4), fixed)

    def test_small_bounds_and_masks(self):
        # sums become clauses at once, and the values of masks are forgotten again and again
        problems = Problems(8)
        with mock.patch.multiple(cuts, GREATEST_BOUND=2), mock.patch.multiple(store, MOST_MASKS=2):
            for _ in range(400):
                self.check(*problems.problem())

    def test_choices_that_were_broken_long_ago(self):
        problems = Problems(9)
        with mock.patch.multiple(engine, BUMP_PART=1, GREATEST_BUMP=10 ** 7):
            for _ in range(400):
                self.check(*problems.problem())

    def test_unlike_two_by_two(self):
        sizes = (5,) * 6
        sums = tuple(
            (((one, weights), (other, weights)), 1) for one, other in itertools.combinations(range(6), 2)
            for weights in (tuple(int(value != hour) for value in range(5)) for hour in range(5)))
        with mock.patch.multiple(engine, FIRST_START=3, START_PART=4, FIRST_LEARNT=6, MORE_LEARNT=1):
            self.proof(sizes, sums, (), search(sizes, sums))


class Hard(Case):
    def refuted(self, sizes, sums):
        word, steps = search(sizes, sums)
        self.assertEqual(word, "proof")
        self.assertIs(is_refuted(sizes, sums, (), steps), True)
        self.assertEqual(led(sizes, sums, steps)[-1][0], ())

    def holes(self, tasks, hours, rooms=1):
        return (hours,) * tasks, tuple(
            (tuple((choice, tuple(int(value != hour) for value in range(hours))) for choice in range(tasks)), tasks - rooms)
            for hour in range(hours))

    def test_one_more_than_hours(self):
        for hours in (1, 2, 3, 5, 8, 12, 30):
            sizes, sums = self.holes(hours + 1, hours)
            if hours > 1:
                self.refuted(sizes, sums)
                self.assertEqual(search(sizes[1:], tuple(
                    (tuple((choice - 1, weights) for choice, weights in terms[1:]), bound - 1) for terms, bound in sums)),
                    ("row", tuple(range(hours))))
        self.refuted(*self.holes(31, 10, 3))

    def test_unlike_two_by_two(self):
        # four tasks in three hours, told by pairs
        sizes = (3,) * 4
        sums = tuple(
            (((one, weights), (other, weights)), 1) for one, other in itertools.combinations(range(4), 2)
            for weights in ((0, 1, 1), (1, 0, 1), (1, 1, 0)))
        self.refuted(sizes, sums)

    def test_rules_that_go_round(self):
        # each one is greater than the one ahead of it, and the first one than the last one
        for many, values in ((3, 10), (5, 30), (40, 20)):
            sizes = (values,) * many
            sums = tuple(
                (tuple(sorted((((one, tuple(int(value < hour) for value in range(values)))),
                               ((one + 1) % many, tuple(int(value > hour) for value in range(values)))))), 1)
                for one in range(many) for hour in range(values))
            sums = tuple(form_of(sizes, terms, bound) for terms, bound in sums)
            self.refuted(sizes, sums)

    def test_a_chain_of_a_hundred_choices(self):
        # each choice is at least the one ahead of it and its opposite at the end
        sizes = (3,) * 100
        sums = tuple(
            (((one, tuple(int(value < least) for value in range(3))), (one + 1, tuple(int(value >= least) for value in range(3)))), 1)
            for one in range(99) for least in (1, 2))
        self.assertEqual(search(sizes, sums), ("row", (0,) * 100))
        self.assertEqual(search_under(sizes, sums, ((3, (1, 2)), (70, (2,)))), ("row", (0,) * 3 + (1,) * 67 + (2,) * 30))
        word, steps = search_under(sizes, sums, ((3, (1, 2)), (99, (0,))))
        self.assertEqual(word, "proof")
        self.assertIs(is_refuted(sizes, sums, ((3, (1, 2)), (99, (0,))), steps), True)
        self.refuted(sizes, sums + ((((3, (0, 1, 1)),), 1), (((99, (1, 0, 0)),), 1)))

    def test_a_chain_of_additions(self):
        # weights that grow along the chain
        sizes = (2,) * 100
        sums = tuple((((one, (1, 0)), (one + 1, (0, 2 ** one))), 2 ** one) for one in range(99))
        sums = tuple(form_of(sizes, terms, 1 if one else bound) for one, (terms, bound) in enumerate(sums))
        found = search_under(sizes, sums, ((0, (1,)),))
        self.assertEqual(found, ("row", (1,) * 100))

    def test_sixty_choices(self):
        for seed in range(8):
            chance = random.Random(seed)
            sizes = tuple(chance.randint(2, 4) for _ in range(60))
            known = tuple(chance.randrange(many) for many in sizes)
            sums = []
            for _ in range(100):
                terms = tuple(
                    (choice, tuple(chance.randint(0, 5) for _ in range(sizes[choice])))
                    for choice in sorted(chance.sample(range(60), 4)))
                sums.append(form_of(sizes, terms, sum(weights[known[choice]] for choice, weights in terms)))
            word, row = search(sizes, tuple(sums))
            self.assertEqual(word, "row")
            self.assertLessEqual(row, known)
            self.assertTrue(all(kept_by(sizes, one, row) for one in sums))
            # no lesser row: at each choice with what is ahead of it
            for choice in (0, 7, 20):
                if row[choice]:
                    fixed = tuple((at, (row[at],)) for at in range(choice)) + ((choice, tuple(range(row[choice]))),)
                    word, steps = search_under(sizes, tuple(sums), fixed)
                    self.assertEqual(word, "proof")
                    self.assertIs(is_refuted(sizes, tuple(sums), fixed, steps), True)

    def test_great_weights(self):
        # half of the weights have to be taken, exactly
        weights = tuple(10 ** 25 + 7 ** at for at in range(10))
        sizes = (2,) * 10
        half = sum(weights[:5])
        sums = (
            form_of(sizes, tuple((at, (0, weight)) for at, weight in enumerate(weights)), half),
            form_of(sizes, tuple((at, (weight, 0)) for at, weight in enumerate(weights)), sum(weights) - half),
        )
        self.assertEqual(search(sizes, sums), ("row", rows_of(sizes, sums)[0]))
        self.refuted(sizes, (sums[0], (sums[1][0], sums[1][1] + sum(weights) - half)))
        odd = tuple((tuple((at, tuple(2 * weight for weight in own)) for at, own in terms), bound + bound - 1)
                    for terms, bound in sums)
        self.assertEqual(search(sizes, odd), search(sizes, sums))

    def test_many_values(self):
        sizes = (200,) * 100
        sums = tuple((((one, tuple(range(200))), (one + 1, tuple(range(199, -1, -1)))), 200) for one in range(50))
        # each is greater than the next one by at least one
        self.assertEqual(search(sizes, sums), ("row", tuple(range(50, -1, -1)) + (0,) * 49))

    def test_forty_thousand_sums(self):
        sizes = (3,) * 4
        sums = ((((0, (0, 0, 1)),), 1),) * 39999 + ((((3, (0, 1, 0)),), 1),)
        self.assertEqual(search(sizes, sums), ("row", (2, 0, 0, 1)))
        self.refused(BadParameter, {"value": sums + sums[:1]}, search, sizes, sums + sums[:1])


class Refuted(Case):
    SIZES = (2, 2, 2)
    SUMS = ((((0, (0, 1)), (1, (0, 1)), (2, (0, 1))), 2), (((0, (1, 0)), (1, (1, 0)), (2, (1, 0))), 2))
    STEPS = (("demand", 0), ("demand", 1), ("add", ((0, 1), (1, 1))))

    def test_right(self):
        self.assertIs(is_refuted(self.SIZES, self.SUMS, (), self.STEPS), True)
        # a single sum may be broken by fixed, and weights at other values are let
        self.assertIs(is_refuted(self.SIZES, self.SUMS, ((0, (0,)), (1, (0,))), self.STEPS[:1]), True)
        self.assertIs(is_refuted(self.SIZES, self.SUMS, ((0, (0,)), (1, (0, 1))), self.STEPS[:1]), False)
        self.assertIs(is_refuted(self.SIZES, self.SUMS, ((0, (0,)), (1, (0,))), self.STEPS[:2]), False)
        # broken by all values though it names choices
        self.assertIs(is_refuted((2,), ((((0, (0, 1)),), 2),), (), (("demand", 0),)), True)
        self.assertIs(is_refuted((2,), ((((0, (0, 1)),), 1),), (), (("demand", 0),)), False)

    def test_bent(self):
        for at, value in (
            ((0, 1), 1), ((1, 1), 0), ((1, 1), 2), ((1, 1), True), ((0, 1), False), ((2, 1, 0, 1), 2), ((2, 1, 0, 1), 0),
            ((2, 1, 1, 0), 2), ((2, 1, 1, 0), 3), ((2, 1), ((0, 1),)), ((2, 1, 0, 1), True), ((2, 0), "cap"), ((2,), None),
            ((1,), ("given", 0)), ((0,), ["demand", 0]), ((2, 1), [(0, 1), (1, 1)]), ((0, 1), -1), ((0, 1), GREAT),
        ):
            self.assertIs(is_refuted(self.SIZES, self.SUMS, (), changed(self.STEPS, at, value)), False)
        for value in NO_TUPLES + (None, (), (None,), ((),), list(self.STEPS), self.STEPS[:2], self.STEPS + (None,),
                                  self.STEPS + (("given", 0),), (Odd(),), ("demand", 0), (("add", ()),)):
            self.assertIs(is_refuted(self.SIZES, self.SUMS, (), value), False)

    def test_bent_proofs_of_search(self):
        # whatever is taken for a proof is one: all rows are tried
        problems = Problems(4)
        chance = problems.chance
        taken = 0
        for _ in range(1500):
            sizes, sums, fixed = problems.problem()
            word, steps = search_under(sizes, sums, fixed)
            if word == "row":
                continue
            at = chance.randrange(len(steps))
            step = steps[at]
            if step[0] == "add":
                new = ("add", changed(step[1], (0, chance.randint(0, 1)), chance.randint(0, 4)))
            else:
                new = (step[0], chance.randint(0, len(sums))) + step[2:]
            for bent in (changed(steps, (at,), new), steps[:at], steps[:at] + steps[at + 1:]):
                if is_refuted(sizes, sums, fixed, bent):
                    taken += 1
                    self.assertEqual(rows_of(sizes, sums, fixed), [])
                    last = led(sizes, sums, bent)[-1]
                    self.assertLess(greatest_under(sizes, last, sets_of(sizes, fixed)), last[1])
            if rows_of(sizes, sums, ()):
                # without fixed there are rows, so it is no proof
                self.assertIs(is_refuted(sizes, sums, (), steps), False)
        self.assertGreater(taken, 20)


class States(Case):
    def word(self, sizes, left):
        """The word that falls."""
        return left + (sum(sizes) + 1,) * (len(sizes) + 1 - len(left))

    def check_state(self, sizes, sums, fixed, state):
        sets, decisions, left, steps = state
        self.unchangeable(state)
        self.assertEqual((len(sets), len(left)), (len(sizes), len(decisions) + 1))
        self.assertEqual(left[-1], sum(len(those) for those in sets))
        self.assertEqual(list(left), sorted(left, reverse=True))
        for those, let in zip(sets, sets_of(sizes, fixed)):
            self.assertTrue(those and set(those) <= set(let) and list(those) == sorted(set(those)))
        for choice, value in decisions:
            self.assertEqual(sets[choice], (value,))
            self.assertTrue(all(len(those) == 1 for those in sets[:choice]))
        self.assertEqual([choice for choice, _ in decisions], sorted({choice for choice, _ in decisions}))
        for row in rows_of(sizes, sums, fixed):
            if all(row[choice] == value for choice, value in decisions):
                self.assertTrue(all(value in those for value, those in zip(row, sets)))
        rows = rows_of(sizes, sums)
        for one in led(sizes, sums, steps):
            self.assertTrue(all(kept_by(sizes, one, row) for row in rows))

    def check(self, sizes, sums, fixed):
        states = [search_after(sizes, sums, fixed, 0)]
        self.assertEqual(states[0], (
            sets_of(sizes, fixed), (), (sum(len(those) for those in sets_of(sizes, fixed)),), ()))
        last = search_after(sizes, sums, fixed, 10 ** 6)
        while True:
            state = search_after(sizes, sums, fixed, len(states))
            self.check_state(sizes, sums, fixed, state)
            fell = self.word(sizes, state[2]) < self.word(sizes, states[-1][2])
            if not fell:
                break
            self.one_step(sizes, sums, states, state)
            states.append(state)
        # only the last step doesn't make the word fall
        self.assertEqual(state, last)
        rows = rows_of(sizes, sums, fixed)
        if rows:
            self.assertEqual(last[0], tuple((value,) for value in rows[0]))
            self.assertEqual(last, states[-1])
        else:
            self.assertEqual(last[:3], states[0][:3])
            self.assertIs(is_refuted(sizes, sums, fixed, last[3]), True)
        return len(states)

    def one_step(self, sizes, sums, states, state):
        """A decision for the least value of the first choice with more, or something has been taken out."""
        before = states[-1]
        if len(state[1]) > len(before[1]):
            # no sum is broken, and none has values that can't be
            held = tuple(enumerate(before[0]))
            self.assertEqual(narrowed_by_hand(sizes, sums, held), before[0])
            choice = next(at for at, those in enumerate(before[0]) if len(those) > 1)
            self.assertEqual(state[1], before[1] + ((choice, before[0][choice][0]),))
            self.assertEqual(state[0], changed(before[0], (choice,), before[0][choice][:1]))
        else:
            self.assertEqual(state[1], before[1][:len(state[1])])
            self.assertLess(state[2][-1], before[2][len(state[2]) - 1])
        if len(state[1]) < len(before[1]):
            # behind what was learnt all is as it was at the decision, but for the choice that was decided
            choice, value = before[1][len(state[1])]
            at = max(number for number, one in enumerate(states) if one[1] == state[1] and one[2] == before[2][:len(one[2])])
            self.assertEqual(changed(state[0], (choice,), ()), changed(states[at][0], (choice,), ()))
            self.assertTrue(set(state[0][choice]) <= set(states[at][0][choice]) - {value})
        self.assertEqual(state[3][:len(before[3])], before[3])

    def test_example(self):
        sizes, sums = EXAMPLE
        self.assertEqual(search_after(sizes, sums, (), 0), (((0, 1), (0, 1)), (), (4,), ()))
        self.assertEqual(search_after(sizes, sums, (), 1), (((0,), (0, 1)), ((0, 0),), (4, 3), ()))
        self.assertEqual(search_after(sizes, sums, (), 2), (((0,), (1,)), ((0, 0),), (4, 2), ()))
        for many in (3, 4, 10 ** 6):
            self.assertEqual(search_after(sizes, sums, (), many), (((0,), (1,)), ((0, 0),), (4, 2), ()))

    def test_without_choices(self):
        self.assertEqual(search_after((), (), (), 5), ((), (), (0,), ()))
        self.assertEqual(search_after((), (((), 2),), (), 0), ((), (), (0,), ()))
        self.assertEqual(search_after((), (((), 2),), (), 1), ((), (), (0,), (("demand", 0),)))

    def test_all_states(self):
        problems = Problems(5)
        most = 0
        for _ in range(500):
            most = max(most, self.check(*problems.problem()))
        self.assertGreater(most, 4)

    def test_states_that_lay_back(self):
        # unlike two by two: more tasks than hours, so decisions are laid back again and again
        for tasks, hours in ((3, 2), (4, 3), (4, 4)):
            sizes = (hours,) * tasks
            sums = tuple(
                (((one, weights), (other, weights)), 1) for one, other in itertools.combinations(range(tasks), 2)
                for weights in (tuple(int(value != hour) for value in range(hours)) for hour in range(hours)))
            self.check(sizes, sums, ())
            self.check(sizes, sums[::-1], ((0, (0, 1)),))
        # the least row is found behind learnt sums
        chance = Problems(6)
        tried = 0
        while tried < 60:
            sizes = tuple(chance.chance.randint(2, 3) for _ in range(5))
            sums = chance.sums(sizes, 9)
            if len(rows_of(sizes, sums)) < 4:
                tried += 1
                self.check(sizes, sums, ())


class Wrong(Case):
    FIXED = ((0, (0, 1)), (3, (2,)))

    def test_sizes(self):
        for sizes in WRONG_SIZES:
            self.refused(BadParameter, {"value": sizes}, search, sizes, None)
            self.refused(BadParameter, {"value": sizes}, narrowed, sizes, None, None)
            self.refused(BadParameter, {"value": sizes}, search_under, sizes, None, None)
            self.refused(BadParameter, {"value": sizes}, is_refuted, sizes, None, None, None)
            self.refused(BadParameter, {"value": sizes}, search_after, sizes, None, None, None)

    def test_sums(self):
        right = ((((0, (0, 1)),), 1),)
        for sums in NO_TUPLES + (None, list(right), right * 40001):
            self.refused(BadParameter, {"value": sums}, search, WIDE, sums)
            for function, more in ((narrowed, ()), (search_under, ()), (is_refuted, (None,)), (search_after, (None,))):
                self.refused(BadParameter, {"value": sums}, function, WIDE, sums, None, *more)
        for value in WRONG_SUMS:
            for function, args in (
                (search, ()), (narrowed, (None,)), (search_under, (None,)), (is_refuted, (None, None)),
                (search_after, (None, None)),
            ):
                with self.assertRaises(BadSum) as caught:
                    function(WIDE, right + (value, None), *args)
                self.assertIs(caught.exception.value, value)

    def test_fixed(self):
        self.assertEqual(narrowed(WIDE, (), self.FIXED), ((0, 1), (0, 1, 2), (0,), (2,)))
        wrong = NO_TUPLES + (
            None, (0,), ((0,),), ((0, (0,), 0),), [(0, (0,))], ([0, (0,)],), ((0, [0]),), ((0, ()),), ((0, None),),
            ((0, 0),), ((0, (2,)),), ((0, (-1,)),), ((0, (1, 0)),), ((0, (0, 0)),), ((4, (0,)),), ((-1, (0,)),),
            self.FIXED[::-1], self.FIXED[:1] * 2, self.FIXED + (None,), ((GREAT, (0,)),), ((0, (GREAT,)),), (Odd(),),
        )
        wrong += tuple(changed(self.FIXED, (1, 0), value) for value in NO_INTEGERS + (None,))
        wrong += tuple(changed(self.FIXED, (0, 1, 0), value) for value in NO_INTEGERS + (None,))
        for fixed in wrong:
            self.refused(BadParameter, {"value": fixed}, narrowed, WIDE, (), fixed)
            self.refused(BadParameter, {"value": fixed}, search_under, WIDE, (), fixed)
            self.refused(BadParameter, {"value": fixed}, is_refuted, WIDE, (), fixed, None)
            self.refused(BadParameter, {"value": fixed}, search_after, WIDE, (), fixed, None)

    def test_many(self):
        for many in NO_INTEGERS + (None, -1, 10 ** 6 + 1, GREAT):
            self.refused(BadParameter, {"value": many}, search_after, WIDE, (), (), many)


if __name__ == "__main__":
    unittest.main()
