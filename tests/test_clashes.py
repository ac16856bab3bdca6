"""[31], [32]: some parts alone, and the least clash."""

import itertools
import math
import unittest

from besthours.checking import is_clash_paper, is_refutation
from besthours.choices import sizes
from besthours.clashes import is_least_clash, least_clash, together
from besthours.demands import demands, keeps_all, parts
from besthours.errors import BadBook, BadParameter, BadQuestion, NoRow
from besthours.sums import kept_by
from samples import Case, EMPTY, NO_TUPLES, Odd, book, changed, task
from test_best import GROUPED, Questions, asked

ANY = (None, None, None)
FREE = task()


def all_rows(question):
    return tuple(itertools.product(*(range(many) for many in sizes(question))))


def keepers(question):
    """For each part the rows that keep all its demands."""
    told, many = demands(question), sizes(question)
    rows = all_rows(question)
    return {
        part: {row for row in rows if all(kept_by(many, one, row) for own, one in told if own == part)}
        for part in parts(question)
    }


def clash_by_hand(question):
    """What is left if the parts are gone through, all rows tried; None if all hold together."""
    kept, rows = keepers(question), set(all_rows(question))
    left = list(parts(question))

    def can(lot):
        found = set(rows)
        for part in lot:
            found &= kept[part]
        return bool(found)

    if can(left):
        return None
    for part in parts(question):
        without = [one for one in left if one != part]
        if not can(without):
            left = without
    return tuple(left)


class Clashes(Case):
    def judge(self, question):
        """The least clash, judged by itself and by all rows."""
        wanted = clash_by_hand(question)
        if wanted is None:
            self.refused(NoRow, {}, least_clash, question)
            for value in ((), (parts(question), (("demand", 0),), ()), ((), (), ())):
                self.assertIs(is_least_clash(question, value), False)
            return None
        found = least_clash(question)
        self.unchangeable(found)
        lot, steps, rows = found
        self.assertEqual(lot, wanted)
        self.assertIs(is_least_clash(question, found), True)
        self.assertIs(is_clash_paper(question, found), True)
        self.assertIs(is_refutation(question, (), steps), True)
        told, every, kept = demands(question), parts(question), keepers(question)
        self.assertTrue(all(told[step[1]][0] in lot for step in steps if step[0] == "demand"))
        self.assertEqual(len(rows), len(lot))
        for at, part in enumerate(lot):
            self.assertNotIn(rows[at], kept[part])
            for other in lot[:at] + every[every.index(part) + 1:]:
                self.assertIn(rows[at], kept[other])
        return found

    def test_three_tasks_in_two_hours(self):
        question = asked(book((2,), groups=(0,), tasks=(GROUPED,) * 3))
        self.assertEqual(self.judge(question)[0], (("always", "group", 0),))

    def test_two_rules_and_a_group(self):
        at = ((0,), None, None)
        rules = ((("least", (0,), at, 1), None), (("least", (1,), at, 1), None), (("alike", 0, 1, "room"), None))
        rooms = ((0, ()), (0, ()))
        question = asked(book((2,), rooms, groups=(0,), tasks=(task(1, None, (), (0,), ()),) * 2, rules=rules))
        self.assertIn(("rule", 2), parts(question))
        self.assertEqual(self.judge(question)[0], (("always", "group", 0), ("rule", 0), ("rule", 1)))

    def test_a_task_without_a_spot(self):
        question = asked(book(tasks=(FREE, task(1, ()), task(1, ()))))
        self.assertEqual(self.judge(question), ((("task", 2),), (("demand", 1),), ((0, 0, 0),)))

    def test_fixed(self):
        question = asked(book((2,), groups=(0,), tasks=(GROUPED,) * 2), None, ((0, (1,)), (1, (1,))))
        self.assertEqual(self.judge(question)[0], (("always", "group", 0), ("fixed", 0), ("fixed", 1)))
        question = asked(book((2,), groups=(0,), tasks=(GROUPED,) * 2), None, ((0, ()), (1, (1,))))
        self.assertEqual(self.judge(question)[0], (("fixed", 0),))

    def test_rules_with_a_price_are_in_no_clash(self):
        never = ("least", (), ANY, 1)
        question = asked(book(rules=((never, 1), (never, None), (never, None), (never, 2))))
        self.assertEqual(self.judge(question)[0], (("rule", 2),))
        self.assertIsNone(self.judge(asked(book(rules=((never, 1), (never, 2))))))

    def test_nothing(self):
        self.assertIsNone(self.judge(asked(EMPTY)))
        self.assertEqual(together(asked(EMPTY), ()), ("row", ()))

    def test_all_rows(self):
        maker = Questions(61)
        tried = longest = 0
        while tried < 500:
            a_book = maker.book(6)
            question = maker.question(200, 7) if tried % 2 else asked(a_book)
            if math.prod(sizes(question)) > 1500 or clash_by_hand(question) is None and maker.chance.random() < 0.8:
                continue
            tried += 1
            found = self.judge(question)
            if found is not None:
                longest = max(longest, len(found[0]))
        self.assertGreater(longest, 1)

    def test_lots_of_many_parts(self):
        # three tasks in three hours, and many rules none of which is hard to keep alone
        maker = Questions(64)
        chance = maker.chance
        tried, lengths = 0, []
        while tried < 150:
            a_book = book((3,), groups=(0,), people=((0, 1, 2),), tasks=(
                task(1, None, (0,)), task(1, None, (), (0,)), task(1, None, (0,), (0,))))
            rules = []
            while len(rules) < 8:
                what = maker.what(a_book)
                if what[0] in ("before", "unlike", "close", "alike") and what[-1] in (0, 1, "start", (0, 1, 2), (0, 2)):
                    rules.append((what, chance.choice((None, None, None, None, 4))))
                at = ((chance.randrange(3),), None, None)
                rules.append((("most", (chance.randrange(3),), at, 0), None))
            question = asked(changed(a_book, (5,), tuple(rules)))
            if clash_by_hand(question) is None or math.prod(sizes(question)) > 1500:
                continue
            tried += 1
            lengths.append(len(self.judge(question)[0]))
        self.assertGreater(max(lengths), 4)
        self.assertGreater(len(set(lengths)), 3)

    def test_no_other_lot(self):
        maker = Questions(62)
        tried = 0
        while tried < 60:
            question = maker.question(100, 5)
            if math.prod(sizes(question)) > 400 or len(parts(question)) > 8 or clash_by_hand(question) is None:
                continue
            tried += 1
            lot, steps, rows = least_clash(question)
            every = parts(question)
            for many in range(len(every) + 1):
                for other in itertools.combinations(every, many):
                    value = (other, steps, rows)
                    self.assertIs(is_least_clash(question, value), other == lot)
                    told = together(question, other)
                    if other != lot and told[0] == "proof":
                        # with whatever rows: another lot has not its rows
                        some = (rows + all_rows(question)[:1] * len(other))[:len(other)]
                        self.assertIs(is_least_clash(question, (other, told[1], some)), False)

    def test_bent(self):
        question = asked(book((2,), groups=(0,), tasks=(GROUPED,) * 2), None, ((0, (1,)), (1, (1,))))
        right = least_clash(question)
        for part in range(3):
            for value in NO_TUPLES + (None, (), Odd()):
                self.assertIs(is_least_clash(question, changed(right, (part,), value)), False)
                self.assertIs(is_least_clash(question, changed(right, (part, 0), value)), False)
            self.assertIs(is_least_clash(question, changed(right, (part,), right[part][:-1])), False)
        for value in NO_TUPLES + (None, (), right[:2], right + ((),), list(right)):
            self.assertIs(is_least_clash(question, value), False)

    def test_many_parts(self):
        # rules that go round among many others that can be kept: just these are the lot
        tasks = (FREE,) * 20
        round_about = [("before", 2, 7, 1), ("before", 7, 11, 1), ("before", 11, 2, 1)]
        others = [("before", one, one + 1, 1) for one in range(11, 19)]
        whats = others[:4] + round_about[:1] + others[4:] + round_about[1:]
        question = asked(book((6, 6), ((0, ()),), groups=(0,), tasks=tasks, rules=tuple((what, None) for what in whats)))
        lot, steps, rows = least_clash(question)
        self.assertEqual([whats[number] for _, number in lot], round_about)
        self.assertIs(is_least_clash(question, (lot, steps, rows)), True)

    def test_one_more_than_hours(self):
        for many in (3, 8, 20):
            days = (many,) if many <= 12 else (10, many - 10)
            rules = tuple((("most", (one,), ((one,), None, None), 0), None) for one in range(5))
            question = asked(book(days, groups=(0, 0), tasks=(GROUPED,) * (many + 1), rules=rules[:min(5, many)]))
            lot, steps, rows = least_clash(question)
            self.assertEqual(lot, (("always", "group", 0),))
            self.assertIs(is_least_clash(question, (lot, steps, rows)), True)


class Together(Case):
    def test_all_lots(self):
        maker = Questions(63)
        tried = 0
        words = {"row": 0, "proof": 0}
        while tried < 120:
            question = maker.question(150, 5)
            every = parts(question)
            if math.prod(sizes(question)) > 600 or not 1 <= len(every) <= 6:
                continue
            tried += 1
            kept = keepers(question)
            told = demands(question)
            for many in range(len(every) + 1):
                for lot in itertools.combinations(every, many):
                    found = together(question, lot)
                    self.unchangeable(found)
                    rows = set(all_rows(question)).intersection(*(kept[part] for part in lot))
                    words[found[0]] += 1
                    if rows:
                        self.assertEqual((found[0], len(found)), ("row", 2))
                        self.assertIn(found[1], rows)
                        self.assertEqual(keeps_all(question, found[1]), all(found[1] in kept[part] for part in every))
                    else:
                        self.assertEqual((found[0], len(found)), ("proof", 2))
                        self.assertIs(is_refutation(question, (), found[1]), True)
                        self.assertTrue(all(told[step[1]][0] in lot for step in found[1] if step[0] == "demand"))
        self.assertGreater(min(words.values()), 100)

    def test_wrong_lots(self):
        question = asked(book((2,), groups=(0,), tasks=(GROUPED,) * 2), None, ((0, (1,)), (1, (1,))))
        every = parts(question)
        self.assertEqual(every, (("always", "group", 0), ("fixed", 0), ("fixed", 1)))
        wrong = NO_TUPLES + (
            None, list(every), every[::-1], every + every[2:], every[:1] * 2, (None,), (every,), ("always", "group", 0),
            (("always", "group", 1),), (("always", "room", 0),), (("rule", 0),), (("task", 0),), (["fixed", 0],),
            (("fixed", True),), (("fixed", False),), (("fixed", 0.0),), (("fixed",),), (("fixed", 0, 0),), (Odd(),),
            ((Odd(), 0),), (("fixed", Odd()),), (("fixed", 2),), ((),), (0,), ("fixed",), (("always", "group", False),),
        )
        for lot in wrong:
            self.refused(BadParameter, {"value": lot}, together, question, lot)

    def test_questions_ahead_of_lots(self):
        for question, error, attributes in (
            (None, BadQuestion, {"place": ()}), ((None, None, ()), BadBook, {"place": ()}),
            ((EMPTY, 0, 0), BadQuestion, {"place": (1,)}), ((EMPTY, None, [()]), BadQuestion, {"place": (2,)}),
        ):
            self.refused(error, attributes, together, question, None)
            self.refused(error, attributes, least_clash, question)
            self.refused(error, attributes, is_least_clash, question, None)


if __name__ == "__main__":
    unittest.main()
