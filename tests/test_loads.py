"""[46]: questions with a rule more, the least and the greatest load of all plans."""

import unittest

from besthours.asks import held_to
from besthours.checking import is_refutation
from besthours.errors import BadBook, BadParameter, BadQuestion, BadRule, NoRow, TooGreat
from besthours.loads import greatest_load, is_greatest_load, is_least_load, least_load, ruled
from besthours.sure import sure
from samples import Case, Crowd, EMPTY, NO_TUPLES, ODD, Odd, book, changed, task
from test_best import let_plans
from test_sure import ANY, Asked, FREE, GREAT, GROUPED, NO_AT, asked, is_in_at, two_of_a_person

NEVER = ("least", (), ANY, 1)
BOTH = ((least_load, is_least_load), (greatest_load, is_greatest_load))


def load_by_hand(question, tasks, at, plan):
    """The LENGTHs of those of the tasks that are in AT."""
    every = question[0][4]
    return sum(every[number][0] for number in tasks if is_in_at(every[number], plan[number], at))


class Ruled(Case):
    def test_by_hand(self):
        question = two_of_a_person(2)
        for what in (("least", (0, 1), ANY, 1), ("before", 0, 1, 1), ("close", ("person", 0), (0, 1)), NEVER):
            other = ruled(question, what)
            self.assertEqual(other, changed(question, (0, 5), ((what, None),)))
            self.unchangeable(other)
            again = ruled(what=("alike", 1, 0, "day"), question=other)
            self.assertEqual(again[0][5], ((what, None), (("alike", 1, 0, "day"), None)))
        old = changed(question, (1,), (None, None))
        self.assertEqual(ruled(changed(old, (2,), ((1, (0,)),)), NEVER)[1:], ((None, None), ((1, (0,)),)))

    def test_wrong_rules(self):
        question = two_of_a_person(2)
        for wrong in NO_TUPLES + (None, (), ("least",), ("least", (), ANY, 1, 0), (True, (), ANY, 1), [NEVER]):
            self.refused(BadRule, {"place": (0,)}, ruled, question, wrong)
        for what, number in (
            (("least", (2,), ANY, 1), 1), (("most", (True,), ANY, 1), 1), (("least", (), None, 1), 2),
            (("most", (), ANY, 41), 3), (("load", (0,), ANY, 161, 161), 3), (("load", (0,), ANY, 2, 1), 4),
            (("before", 0, 0, 1), 2), (("before", 2, 0, 1), 1), (("before", 0, 1, 81), 3), (("alike", 0, 1, "hour"), 3),
            (("close", ("group", 0), ()), 1), (("close", ("person", 0), (2,)), 2), (("load", (), (None, (0,), None), 0, 0), 2),
        ):
            self.refused(BadRule, {"place": (0, number)}, ruled, question, what)

    def test_forty_rules(self):
        full = asked(book((2,), tasks=(FREE, FREE), rules=((("least", (), ANY, 0), None),) * 40))
        self.refused(TooGreat, {"most": 40}, ruled, full, NEVER)
        self.refused(BadRule, {"place": (0,)}, ruled, full, None)
        short = changed(full, (0, 5), full[0][5][1:])
        self.assertEqual(len(ruled(short, NEVER)[0][5]), 40)

    def test_too_many_sums(self):
        # 84 hours, 40 tasks: "close" of all of them is too much; of 22 it can be once
        close = ("close", ("group", 0), tuple(range(22)))
        question = asked(((12,) * 7, (), (), (0,), (FREE,) * 40, ()))
        one = ruled(question, close)
        self.assertEqual(one[0][5], ((close, None),))
        self.refused(TooGreat, {"most": 40000}, ruled, one, close)
        self.refused(TooGreat, {"most": 40000}, ruled, question, ("close", ("group", 0), tuple(range(40))))


class Loads(Case):
    def judge(self, question, tasks, at):
        """Both answers, judged by all plans; None without a plan."""
        plans = {one[3]: load_by_hand(question, tasks, at, one[3]) for one in let_plans(question)}
        if not plans:
            for function, judge in BOTH:
                self.refused(NoRow, {}, function, question, tasks, at)
                self.assertIs(judge(question, tasks, at, (0, (), ())), False)
                self.assertIs(judge(question, tasks, at, None), False)
            return None
        whole = sum(question[0][4][number][0] for number in tasks)
        answers = []
        for (function, judge), wanted, end in zip(BOTH, (min(plans.values()), max(plans.values())), (0, whole)):
            found = function(question, tasks, at)
            self.unchangeable(found)
            load, plan, steps = found
            self.assertEqual(load, wanted)
            self.assertEqual(plans[plan], load)
            self.assertEqual(steps == (), load == end)
            if load != end:
                bounds = (0, load - 1) if end == 0 and function == least_load else (load + 1, 160)
                other = ruled(question, ("load", tasks, at) + bounds)
                self.assertIs(is_refutation(other, (), steps), True)
            self.assertIs(judge(question, tasks, at, found), True)
            answers.append(found)
        return answers

    def loads(self, question, tasks, at):
        return [load for load, _, _ in self.judge(question, tasks, at)]

    def test_example(self):
        at = ((0, 1), None, None)
        self.assertEqual(self.loads(two_of_a_person(3), (0, 1), at), [1, 2])
        self.assertEqual(self.loads(two_of_a_person(2), (0, 1), at), [2, 2])
        self.assertEqual(self.loads(two_of_a_person(2), (0, 1), ((0,), None, (0,))), [1, 1])

    def test_by_hand(self):
        question = asked(book((4, 4), ((0, ()),), groups=(0,), tasks=(
            task(4, None, (), (0,)), task(2, None, (), (0,)), task(1, None, (), (0,), ()))))
        for tasks, at, wanted in (
            ((), ANY, [0, 0]), ((0, 1, 2), ANY, [7, 7]), ((0, 1, 2), (None, (), None), [0, 0]),
            ((0, 1), ((0, 1, 2, 3), None, None), [2, 4]), ((0, 1, 2), ((0, 1, 2, 3), None, None), [3, 4]),
            ((0, 1, 2), (None, (0,), None), [1, 1]), ((1, 2), ((0,), None, None), [0, 2]),
            ((0, 1, 2), ((0, 7), None, None), [4, 6]),
        ):
            self.assertEqual(self.loads(question, tasks, at), wanted)

    def test_all_plans(self):
        crowd = Asked(461)
        none = between = 0
        for _ in range(400):
            question = crowd.question(80)
            answers = self.judge(question, *crowd.some(question))
            none += answers is None
            between += answers is not None and answers[0][0] > 0 and answers[1][2] != ()
        self.assertGreater(none, 50)
        self.assertGreater(between, 20)

    def test_not_each_load_between_is_there(self):
        rules = ((("alike", 0, 1, "start"), None),)
        question = asked(book((2,), tasks=(FREE, FREE), rules=rules))
        self.assertEqual(self.loads(question, (0, 1), ((0,), None, None)), [0, 2])
        self.assertEqual(sure(ruled(question, ("load", (0, 1), ((0,), None, None), 1, 1)), (), ANY)[0], "sure")

    def test_forty_rules(self):
        full = asked(book((2,), tasks=(FREE, FREE), rules=((("least", (), ANY, 0), None),) * 40))
        never = changed(full, (0, 5), ((NEVER, None),) * 40)
        short = changed(full, (0, 5), full[0][5][1:])
        self.assertEqual(self.loads(short, (0, 1), ((0,), None, None)), [0, 2])
        for function, judge in BOTH:
            # where there is no plan, too
            for question in (full, never):
                self.refused(TooGreat, {"most": 40}, function, question, (0,), ANY)
                self.refused(TooGreat, {"most": 40}, judge, question, (0,), ANY, None)
                self.refused(BadParameter, {"value": None}, function, question, (0,), None)
                self.refused(BadParameter, {"value": (2,)}, judge, question, (2,), None, None)

    def test_no_room_for_two_sums(self):
        close, before = ("close", ("group", 0), tuple(range(22))), ("before", 0, 1, 1)
        rules = ((close, None),) + ((before, None),) * 13 + ((("least", (), ANY, 0), None),) * 15
        # 84 for the group, 84 * 22 * 21, 84 for each "before", 1 for each "least"
        self.assertEqual(84 + 84 * 22 * 21 + 84 * 13 + 15, 39999)
        question = asked(((12,) * 7, (), (), (0,), (FREE,) * 40, rules))
        for function, judge in BOTH:
            self.refused(TooGreat, {"most": 40000}, function, question, (0,), ANY)
            self.refused(TooGreat, {"most": 40000}, judge, question, (0,), ANY, None)
        load = ("load", (0,), ANY, 0, 0)
        self.refused(TooGreat, {"most": 40000}, ruled, question, load)
        self.assertEqual(ruled(changed(question, (0, 5), rules[:-1]), load)[0][5][-1], (load, None))

    def test_without_a_plan(self):
        for question in (
            asked(book((1,), groups=(0,), tasks=(GROUPED,) * 2)), asked(book((1,), tasks=(FREE, task(1, ())))),
            asked(book((1,), tasks=(FREE,)), None, ((0, ()),)), asked(book(rules=((NEVER, None),))),
        ):
            self.assertIsNone(self.judge(question, (), ANY))
        self.assertEqual(self.loads(asked(EMPTY), (), ANY), [0, 0])

    def test_fixed_and_prices_and_old_plans(self):
        question = two_of_a_person(3)
        at = ((0,), None, None)
        self.assertEqual(self.loads(question, (0, 1), at), [0, 1])
        self.assertEqual(self.loads(held_to(question, 0, (0, 1)), (0, 1), at), [0, 1])
        self.assertEqual(self.loads(held_to(question, 0, (0,)), (0, 1), at), [1, 1])
        # a priced rule may be broken, an old plan left
        rules = ((("most", (0, 1), at, 0), 10 ** 6),)
        dear = changed(changed(question, (0, 5), rules), (1,), ((1, None, 0), (2, None, 0)))
        self.assertEqual(self.loads(dear, (0, 1), at), [0, 1])
        self.assertEqual(self.loads(changed(dear, (0, 5, 0, 1), None), (0, 1), at), [0, 0])

    def test_greater_books(self):
        # forty tasks of four hours, all in AT; half of them on the first days
        whole = tuple(range(40))
        question = asked(book((12,) * 7, tasks=(task(4),) * 40))
        self.assertEqual(greatest_load(question, whole, ANY)[::2], (160, ()))
        self.assertEqual(least_load(question, whole, (tuple(range(12)), None, None))[::2], (0, ()))
        found = least_load(question, whole, ANY)
        self.assertEqual(found[0], 160)
        self.assertIs(is_least_load(question, whole, ANY, found), True)
        # twenty tasks of one group on twenty hours: the hours of the first day are all taken
        question = asked(book((10, 10), groups=(0,), tasks=(GROUPED,) * 20))
        for function, judge in BOTH:
            found = function(question, tuple(range(20)), (tuple(range(10)), None, None))
            self.assertEqual(found[0], 10)
            self.assertIs(judge(question, tuple(range(20)), (tuple(range(10)), None, None), found), True)


class Judges(Case):
    def test_bent(self):
        crowd = Asked(462)
        tried = 0
        while tried < 60:
            question = crowd.question(40)
            plans = [one[3] for one in let_plans(question)]
            tasks, at = crowd.some(question)
            if not plans or not tasks:
                continue
            tried += 1
            for function, judge in BOTH:
                found = function(question, tasks, at)
                load, plan, steps = found
                wrong = [found[:2], found + ((),), list(found), None, ()]
                wrong += [(number, plan, steps) for number in (load - 1, load + 1, float(load), None, (), "x") + ODD]
                wrong += [(load, value, steps) for value in ODD + (None, (), plan[:-1], plan + plan, (None,) * len(plan))]
                wrong += [(load, plan, value) for value in ODD + (None, (("add", ()),), steps + (("given", 0),), list(steps))]
                if steps:
                    wrong += [(load, plan, ()), (load, plan, steps[:-1] + (("add", ()),))]
                else:
                    wrong += [(load, plan, (("demand", 0),))]
                for value in wrong:
                    self.assertIs(judge(question, tasks, at, value), False, value)
                for other in plans:
                    same = load_by_hand(question, tasks, at, other) == load
                    self.assertIs(judge(question, tasks, at, (load, other, steps)), same)
                    if not same:
                        # a right plan and its own load, but the proof is of another one
                        its = load_by_hand(question, tasks, at, other)
                        self.assertIs(judge(question, tasks, at, (its, other, ())), False)

    def test_true_is_no_load(self):
        question = two_of_a_person(3)
        at = ((0,), None, None)
        load, plan, steps = greatest_load(question, (0, 1), at)
        self.assertEqual(load, 1)
        self.assertIs(is_greatest_load(question, (0, 1), at, (1, plan, steps)), True)
        self.assertIs(is_greatest_load(question, (0, 1), at, (True, plan, steps)), False)
        load, plan, steps = least_load(question, (0, 1), at)
        self.assertIs(is_least_load(question, (0, 1), at, (0, plan, ())), True)
        self.assertIs(is_least_load(question, (0, 1), at, (False, plan, ())), False)


class Wrong(Case):
    def test_questions(self):
        for question, error, attributes in (
            (None, BadQuestion, {"place": ()}), ((EMPTY, None), BadQuestion, {"place": ()}),
            ((None, None, ()), BadBook, {"place": ()}), ((EMPTY, 0, 0), BadQuestion, {"place": (1,)}),
            ((EMPTY, None, (0,)), BadQuestion, {"place": (2, 0)}), ((GREAT, None, ()), TooGreat, {"most": 40000}),
        ) + tuple((value, BadQuestion, {"place": ()}) for value in NO_TUPLES):
            self.refused(error, attributes, ruled, question, None)
            for function, judge in BOTH:
                self.refused(error, attributes, function, question, None, None)
                self.refused(error, attributes, judge, question, None, None, None)

    def test_tasks_and_ats(self):
        question = two_of_a_person(2)
        wrong = NO_TUPLES + (None, (2,), (-1,), (1, 0), (0, 0), (True,), (0.0,), (None,), (Odd(),), [0], ("0",))
        for function, judge in BOTH:
            for tasks in wrong:
                for at in (ANY, None, True):
                    self.refused(BadParameter, {"value": tasks}, function, question, tasks, at)
                    self.refused(BadParameter, {"value": tasks}, judge, question, tasks, at, None)
            for at in NO_AT:
                self.refused(BadParameter, {"value": at}, function, question, (0,), at)
                self.refused(BadParameter, {"value": at}, judge, question, (0, 1), at, None)
            self.assertEqual(function(at=ANY, tasks=(0,), question=question)[0], 1)
            self.assertIs(judge(value=None, at=ANY, tasks=(0,), question=question), False)


if __name__ == "__main__":
    unittest.main()
