"""[44], [45]: the spots that a task can have, and what is surely so."""

import itertools
import unittest

from besthours.asks import held_to
from besthours.book import plan_of_row, row_of_plan, spots_of
from besthours.checking import is_refutation
from besthours.choices import need_question
from besthours.errors import BadBook, BadParameter, BadQuestion, TooGreat
from besthours.loads import least_load
from besthours.sure import is_possible, is_sure, out_of, possible, sure
from samples import Case, Crowd, EMPTY, NO_INTEGERS, NO_TUPLES, ODD, Odd, book, changed, task
from test_best import let_plans

ANY = (None, None, None)
FREE = task()
GROUPED = task(1, None, (), (0,))
GREAT = ((12,) * 7, (), (), (0,), (FREE,) * 40, ((("close", ("group", 0), tuple(range(40))), None),))
NO_AT = NO_TUPLES + (
    None, (), (None, None), (None,) * 4, [None, None, None], ((1, 0), None, None), (None, (9,), None),
    (None, None, (9,)), ((99,), None, None), ((True,), None, None), (None, (False,), None), (0, None, None),
    (None, 0, None), (None, None, True), ([0], None, None), ((Odd(),), None, None), (Odd(), Odd(), Odd()))


def asked(a_book, old=None, fixed=()):
    return (a_book, old, fixed)


def two_of_a_person(hours):
    """The example of the document: two tasks of one person, of one hour each, on a day of so many hours."""
    one = task(1, None, (0,))
    return asked(book((hours,), people=(tuple(range(hours)),), tasks=(one, one)))


def is_in_at(one, spot, at):
    """Whether a spot of a task is in an AT, told by hand."""
    hours, rooms, people = at
    if hours is not None and not set(hours) & set(range(spot[0], spot[0] + one[0])):
        return False
    return (rooms is None or spot[1] in rooms) and (people is None or spot[2] in people)


def rows_let(question):
    return [row for _, _, row, _ in let_plans(question)]


class Asked(Crowd):
    """Questions with tasks and an AT, the same ones in each run."""

    def some(self, question):
        """A SET of tasks and an AT."""
        return self.set_of(len(question[0][4]), 0.7), self.at(question[0])


class Possible(Case):
    def judge(self, question, number):
        """The answer, judged by all plans."""
        found = possible(question, number)
        self.unchangeable(found)
        spots, plans, proofs = found
        rows = rows_let(question)
        many = len(spots_of(question[0], number))
        wanted = tuple(spot for spot in range(many) if any(row[number] == spot for row in rows))
        self.assertEqual((len(found), spots), (3, wanted))
        self.assertEqual(len(plans), len(spots))
        for spot, plan in zip(spots, plans):
            row = row_of_plan(question[0], plan)
            self.assertIn(row, rows)
            self.assertEqual(row[number], spot)
        others = [spot for spot in range(many) if spot not in spots]
        self.assertEqual(len(proofs), len(others))
        for spot, steps in zip(others, proofs):
            self.assertIs(is_refutation(held_to(question, number, (spot,)), (), steps), True)
        self.assertIs(is_possible(question, number, found), True)
        return found

    def test_example(self):
        for number in (0, 1):
            self.assertEqual(self.judge(two_of_a_person(2), number)[::2], ((0, 1), ()))

    def test_by_hand(self):
        never = (("least", (), ANY, 1), None)
        for a_book, fixed, number, wanted in (
            (book((2,), tasks=(FREE,)), (), 0, (0, 1)), (book((2,), tasks=(FREE,)), ((0, (1,)),), 0, (1,)),
            (book((2,), tasks=(FREE,)), ((0, ()),), 0, ()), (book((1,), tasks=(FREE,)), ((0, (0,)),), 0, (0,)),
            (book((1,), tasks=(FREE,)), ((0, ()),), 0, ()), (book((1,), tasks=(FREE, FREE)), ((1, ()),), 0, ()),
            (book((2,), tasks=(task(1, ()),)), (), 0, ()), (book((2,), tasks=(FREE, task(1, ()))), (), 0, ()),
            (book((2,), tasks=(task(1, ()),)), ((0, ()),), 0, ()), (book((2,), tasks=(FREE,), rules=(never,)), (), 0, ()),
            (book((2,), groups=(0,), tasks=(GROUPED,) * 3), (), 1, ()),
            (book((2,), groups=(0,), tasks=(GROUPED,) * 2), ((1, (1,)),), 0, (0,)),
            # a task with one spot: no demand says that it is there, and those of others are numbered on
            (book((2,), groups=(0,), tasks=(GROUPED, task(1, (0,), (), (0,)))), ((0, (0, 1)),), 1, (0,)),
            (book((2,), groups=(0,), tasks=(GROUPED, task(1, (0,), (), (0,)), GROUPED)), ((0, (1,)), (2, (1,))), 1, ()),
            (book((2,), groups=(0,), tasks=(task(1, (0,), (), (0,)), GROUPED, GROUPED)), ((1, (1,)), (2, (1,))), 0, ()),
            (book((2,), groups=(0,), tasks=(GROUPED, GROUPED, GROUPED)), ((0, (1,)), (1, (0, 1)), (2, (1,))), 1, ()),
        ):
            self.assertEqual(self.judge(asked(a_book, None, fixed), number)[0], wanted)

    def test_all_plans(self):
        crowd = Asked(441)
        some = whole = none = 0
        for _ in range(150):
            question = crowd.question(80)
            for number in range(len(question[0][4])):
                spots, _, proofs = self.judge(question, number)
                some += spots != () and proofs != ()
                whole += proofs == ()
                none += spots == ()
        self.assertGreater(min(some, whole, none), 20)

    def test_the_old_plan_has_no_part_in_it(self):
        crowd = Asked(442)
        for _ in range(20):
            question = crowd.question(40)
            for number in range(len(question[0][4])):
                without = changed(question, (1,), None)
                self.assertEqual(possible(question, number)[0], possible(without, number)[0])
                self.assertIs(is_possible(question, number, possible(without, number)), True)

    def test_one_spot_alone(self):
        # if it is one spot the task stands there in all plans
        crowd = Asked(443)
        tried = 0
        while tried < 20:
            question = crowd.question(60)
            for number in range(len(question[0][4])):
                spots = possible(question, number)[0]
                if len(spots) == 1:
                    tried += 1
                    self.assertEqual({row[number] for row in rows_let(question)}, set(spots))

    def test_many_spots(self):
        # 24 hours in eight rooms: 192 spots, the hours of the first day all taken but one
        rooms = ((9, ()),) * 8
        a_book = book((12, 12), rooms, groups=(0,), tasks=(task(1, None, (), (0,), ()),) + tuple(
            task(1, (hour,), (), (0,)) for hour in range(11)))
        spots, plans, proofs = possible(asked(a_book), 0)
        self.assertEqual(spots, tuple(range(88, 192)))
        self.assertEqual((len(plans), len(proofs)), (104, 88))
        self.assertIs(is_possible(asked(a_book), 0, (spots, plans, proofs)), True)
        # nothing is possible where the others don't find room
        crowded = changed(a_book, (4,), a_book[4] + (task(1, (0,), (), (0,)),))
        spots, plans, proofs = possible(asked(crowded), 0)
        self.assertEqual((spots, plans, len(proofs)), ((), (), 192))
        self.assertIs(is_possible(asked(crowded), 0, (spots, plans, proofs)), True)

    def test_bent(self):
        crowd = Asked(444)
        tried = 0
        while tried < 25:
            question = crowd.question(40)
            number = crowd.chance.randrange(len(question[0][4]))
            found = possible(question, number)
            if not found[0] or not found[2]:
                continue
            tried += 1
            for value in self.bends(question, number, found):
                self.assertIs(is_possible(question, number, value), False)

    def bends(self, question, number, found):
        """Values near a right one that are wrong."""
        spots, plans, proofs = found
        other = next(spot for spot in range(len(spots) + len(proofs)) if spot not in spots)
        yield from (found[:2], found + ((),), list(found), None, (), True)
        # another set
        for wrong in (spots[1:], spots + (other,), tuple(sorted(spots + (other,))), spots[:-1] + (other,), ()):
            yield (wrong, plans, proofs)
        for at, spot in enumerate(spots):
            yield (spots[:at] + (float(spot),) + spots[at + 1:], plans, proofs)
            yield (spots[:at] + spots[at + 1:], plans[:at] + plans[at + 1:], proofs)
            yield (spots[:at] + spots[at + 1:], plans[:at] + plans[at + 1:], proofs + proofs[:1])
            for value in ODD + (None, (), plans[at][:-1], plans[at - 1][:number] + (None,)):
                yield (spots, changed(plans, (at,), value), proofs)
            # a plan that isn't let, or has the task elsewhere
            for row in itertools.product(*(range(len(spots_of(question[0], one))) for one in range(len(plans[at])))):
                if row[number] != spot or row not in rows_let(question):
                    yield (spots, changed(plans, (at,), plan_of_row(question[0], row)), proofs)
        yield (spots, plans[1:], proofs)
        yield (spots, plans + plans[:1], proofs)
        yield (spots, list(plans), proofs)
        # a proof less, of another kind, that refutes nothing
        yield (spots, plans, proofs[1:])
        yield (spots, plans, proofs + proofs[:1])
        yield (spots, plans, list(proofs))
        for at, steps in enumerate(proofs):
            for value in ODD + (None, (), (("add", ()),), steps + (("cap", 10 ** 9),), steps + (("given", 0),)):
                yield (spots, plans, changed(proofs, (at,), value))
            yield (spots, plans, changed(proofs, (at,), steps + (("add", ()),)))
            yield (spots, plans, changed(proofs, (at,), list(steps)))

    def test_plans_and_proofs_are_free(self):
        question = two_of_a_person(3)
        plans = (((0, None, 0), (2, None, 0)), ((1, None, 0), (0, None, 0)), ((2, None, 0), (1, None, 0)))
        self.assertIs(is_possible(question, 0, ((0, 1, 2), plans, ())), True)
        self.assertIs(is_possible(question, 1, ((0, 1, 2), plans, ())), False)
        # whatever other steps stand ahead of a proof
        fixed = changed(two_of_a_person(2), (2,), ((1, (1,)),))
        spots, plans, (steps,) = possible(fixed, 0)
        longer = (("demand", 0),) + tuple(self.moved(step) for step in steps)
        self.assertIs(is_possible(fixed, 0, (spots, plans, (longer,))), True)

    def moved(self, step):
        """A step one place later."""
        if step[0] == "add":
            return ("add", tuple((number + 1, times) for number, times in step[1]))
        return step if step[0] == "demand" else (step[0], step[1] + 1) + step[2:]


class Out(Case):
    def test_by_hand(self):
        question = asked(book((3,), ((0, ()), (0, ())), tasks=(task(1, None, (), (), ()), task(2), FREE)))
        for tasks, at, wanted in (
            ((), ANY, ()), ((0,), ANY, ((0, ()),)), ((0, 2), ((1,), None, None), ((0, (0, 1, 4, 5)), (2, (0, 2)))),
            ((0, 1), (None, (1,), None), ((0, (0, 2, 4)), (1, (0, 1)))), ((1,), ((0,), None, None), ((1, (1,)),)),
            ((1,), ((1,), None, None), ((1, ()),)), ((2,), (None, (), None), ((2, (0, 1, 2)),)),
        ):
            self.assertEqual(out_of(question, tasks, at), changed(question, (2,), wanted))
            self.assertEqual(out_of(at=at, tasks=tasks, question=question), changed(question, (2,), wanted))
        fixed = changed(question, (2,), ((0, (1, 2, 3)), (2, (0, 1))))
        self.assertEqual(out_of(fixed, (0, 1), ((1,), None, None))[2], ((0, (1,)), (1, ()), (2, (0, 1))))

    def test_all_plans(self):
        crowd = Asked(451)
        for _ in range(150):
            question = crowd.question(80)
            tasks, at = crowd.some(question)
            out = out_of(question, tasks, at)
            self.unchangeable(out)
            self.assertEqual(need_question(out), out)
            self.assertTrue(set(tasks) <= {number for number, _ in out[2]})
            wanted = [
                one for one in let_plans(question)
                if not any(is_in_at(question[0][4][number], one[3][number], at) for number in tasks)]
            self.assertEqual(let_plans(out), wanted)


class Sure(Case):
    def judge(self, question, tasks, at):
        """The answer, judged by all plans."""
        found = sure(question, tasks, at)
        self.unchangeable(found)
        self.assertEqual(len(found), 2)
        out = let_plans(out_of(question, tasks, at))
        if out:
            self.assertEqual(found[0], "not")
            self.assertIn(found[1], [one[3] for one in out])
        else:
            self.assertEqual(found[0], "sure")
            self.assertIs(is_refutation(out_of(question, tasks, at), (), found[1]), True)
        self.assertIs(is_sure(question, tasks, at, found), True)
        return found[0]

    def test_example(self):
        at = ((0,), None, (0,))
        two, three = two_of_a_person(2), two_of_a_person(3)
        self.assertEqual(self.judge(two, (0, 1), at), "sure")
        self.assertEqual(out_of(two, (0, 1), at)[2], ((0, (1,)), (1, (1,))))
        self.assertEqual(self.judge(three, (0, 1), at), "not")
        self.assertIs(is_sure(three, (0, 1), at, ("not", ((1, None, 0), (2, None, 0)))), True)
        self.assertEqual(self.judge(two, (0,), at), "not")
        self.assertEqual(self.judge(two, (), at), "not")
        self.assertEqual(self.judge(two, (0,), ANY), "sure")
        self.assertEqual(self.judge(two, (0,), (None, (), None)), "not")

    def test_without_a_plan(self):
        for question in (
            asked(book((1,), groups=(0,), tasks=(GROUPED,) * 2)), asked(book((1,), tasks=(FREE, task(1, ())))),
            asked(book((1,), tasks=(FREE,)), None, ((0, ()),)), asked(book(rules=((("least", (), ANY, 1), None),))),
        ):
            self.assertEqual(self.judge(question, (), ANY), "sure")
            if question[0][4]:
                self.assertEqual(self.judge(question, (0,), (None, (), None)), "sure")
        self.assertEqual(self.judge(asked(EMPTY), (), ANY), "not")

    def test_all_plans(self):
        crowd = Asked(452)
        words = []
        for _ in range(400):
            question = crowd.question(80)
            words.append(self.judge(question, *crowd.some(question)))
        self.assertGreater(min(words.count("sure"), words.count("not")), 50)

    def test_what_is_sure_stays_sure(self):
        crowd = Asked(453)
        tried = 0
        while tried < 60:
            question = crowd.question(60)
            tasks, at = crowd.some(question)
            if sure(question, tasks, at)[0] == "not":
                continue
            tried += 1
            every = tuple(range(len(question[0][4])))
            self.assertEqual(self.judge(question, every, at), "sure")
            for part in range(3):
                self.assertEqual(self.judge(question, tasks, changed(at, (part,), None)), "sure")
            more = changed(question, (0, 5), question[0][5] + ((crowd.what(question[0]), None),))
            self.assertEqual(self.judge(more, tasks, at), "sure")
            if every:
                spots = crowd.set_of(len(spots_of(question[0], 0)))
                self.assertEqual(self.judge(held_to(question, 0, spots), tasks, at), "sure")

    def test_exactly_if_the_least_load_is_above_nothing(self):
        crowd = Asked(454)
        tried = 0
        while tried < 100:
            question = crowd.question(60)
            if let_plans(question):
                tried += 1
                tasks, at = crowd.some(question)
                self.assertEqual(sure(question, tasks, at)[0] == "sure", least_load(question, tasks, at)[0] > 0)

    def test_bent(self):
        crowd = Asked(455)
        tried = 0
        while tried < 60:
            question = crowd.question(40)
            tasks, at = crowd.some(question)
            out = let_plans(out_of(question, tasks, at))
            found = sure(question, tasks, at)
            tried += 1
            wrong = [found[:1], found + ((),), list(found), None, (), ("sure",), ("not",), (found[1], found[0])]
            wrong += [(word, found[1]) for word in ODD + (None, "", "Sure", "none", {"sure": "not", "not": "sure"}[found[0]])]
            wrong += [(word, value) for word in ("sure", "not") for value in ODD + (None, (), (None,), 0)]
            if found == ("not", ()):
                wrong.remove(found)
            if found[0] == "sure":
                wrong += [("sure", found[1] + (("add", ()),)), ("sure", found[1] + (("given", 0),)), ("sure", list(found[1]))]
            for value in wrong:
                self.assertIs(is_sure(question, tasks, at, value), False, value)
            # just the plans without any of the tasks in AT
            for one in let_plans(question):
                self.assertIs(is_sure(question, tasks, at, ("not", one[3])), one in out)


class Wrong(Case):
    def test_questions(self):
        for question, error, attributes in (
            (None, BadQuestion, {"place": ()}), ((EMPTY, None), BadQuestion, {"place": ()}),
            ((None, None, ()), BadBook, {"place": ()}), ((EMPTY, 0, 0), BadQuestion, {"place": (1,)}),
            ((EMPTY, None, (0,)), BadQuestion, {"place": (2, 0)}), ((GREAT, None, ()), TooGreat, {"most": 40000}),
        ) + tuple((value, BadQuestion, {"place": ()}) for value in NO_TUPLES):
            self.refused(error, attributes, possible, question, None)
            self.refused(error, attributes, is_possible, question, None, None)
            self.refused(error, attributes, out_of, question, None, None)
            self.refused(error, attributes, sure, question, None, None)
            self.refused(error, attributes, is_sure, question, None, None, None)

    def test_tasks(self):
        question = two_of_a_person(2)
        for wrong in NO_INTEGERS + (None, 2, -1):
            self.refused(BadParameter, {"value": wrong}, possible, question, wrong)
            self.refused(BadParameter, {"value": wrong}, is_possible, question, wrong, None)
        self.refused(BadParameter, {"value": 0}, possible, asked(EMPTY), 0)
        self.assertEqual(possible(task=0, question=question)[0], (0, 1))
        self.assertIs(is_possible(value=None, task=0, question=question), False)

    def test_sets_of_tasks_and_ats(self):
        question = two_of_a_person(2)
        wrong = NO_TUPLES + (None, (2,), (-1,), (1, 0), (0, 0), (True,), (0.0,), (None,), (Odd(),), [0], ("0",))
        for tasks in wrong:
            for at in (ANY, None, True):
                self.refused(BadParameter, {"value": tasks}, out_of, question, tasks, at)
                self.refused(BadParameter, {"value": tasks}, sure, question, tasks, at)
                self.refused(BadParameter, {"value": tasks}, is_sure, question, tasks, at, None)
        for at in NO_AT:
            self.refused(BadParameter, {"value": at}, out_of, question, (0,), at)
            self.refused(BadParameter, {"value": at}, sure, question, (), at)
            self.refused(BadParameter, {"value": at}, is_sure, question, (0, 1), at, None)
        self.assertEqual(sure(at=ANY, tasks=(0,), question=question)[0], "sure")
        self.assertIs(is_sure(value=None, at=ANY, tasks=(0,), question=question), False)


if __name__ == "__main__":
    unittest.main()
