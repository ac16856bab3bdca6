"""[3], [15]: what is wrong in a rule, and where."""

import unittest

from besthours.errors import BadBook, BadRule
from besthours.meaning import need_rule, rule_kept
from samples import Case, EMPTY, NO_INTEGERS, NO_TUPLES, NO_WORDS, RICH, book, changed, task

# two hours, two rooms, two people, two groups, two tasks: sets are of 0 and 1 everywhere
TWO = book((2,), ((9, ()), (9, ())), ((0,), (1,)), (1, 2), (task(), task()))
ANY = (None, None, None)
SETS = ((), (0,), (1,), (0, 1))
NO_SETS = NO_TUPLES + ((2,), (-1,), (0, 0), (1, 0), (0, 1, 2), (True,), (0, True), (None,), ((0,),), (0.0,))
NO_NUMBERS = NO_INTEGERS + (None, -1, 10 ** 5000)

LEAST = ("least", (0, 1), ANY, 1)
MOST = ("most", (0, 1), ANY, 1)
LOAD = ("load", (0, 1), ANY, 1, 2)
BEFORE = ("before", 0, 1, 2)
ALIKE = ("alike", 0, 1, "day")
UNLIKE = ("unlike", 0, 1, "day")
CLOSE = ("close", ("person", 0), (0, 1))
WHATS = (LEAST, MOST, LOAD, BEFORE, ALIKE, UNLIKE, CLOSE)


class Rules(Case):
    def right(self, what, a_book=TWO):
        rule = (what, None)
        self.assertIs(need_rule(a_book, rule), rule)

    def wrong(self, place, rule, a_book=TWO):
        self.refused(BadRule, {"place": place}, need_rule, a_book, rule)
        self.refused(BadRule, {"place": place}, rule_kept, a_book, rule, "no plan")
        self.refused(BadBook, {"place": (5, 0) + place}, need_rule, changed(a_book, (5,), (rule,)), rule)

    def item(self, what, index, right, wrong):
        """An item of WHAT may be this, and is refused at its place if it is that."""
        for value in right:
            self.right(changed(what, (index,), value))
        for value in wrong:
            self.wrong((0, index), (changed(what, (index,), value), None))

    def test_right(self):
        for what in WHATS:
            self.right(what)
        for rule in RICH[5]:
            self.assertEqual(need_rule(RICH, rule), rule)

    def test_the_book_comes_first(self):
        self.refused(BadBook, {"place": ()}, need_rule, None, None)
        self.refused(BadBook, {"place": (3, 0)}, need_rule, changed(TWO, (3, 0), -1), None)

    def test_no_pair(self):
        for rule in NO_TUPLES + (None, (), (LEAST,), (LEAST, None, None), [LEAST, None]):
            self.wrong((), rule)

    def test_no_what(self):
        for what in NO_TUPLES + (None, (), ("least",), list(LEAST), "least"):
            self.wrong((0,), (what, None))
            # ahead of the price
            self.wrong((0,), (what, 0))

    def test_words(self):
        for what in WHATS:
            for word in NO_WORDS + (1, "at", "rule", "must", what[0] + " ", what[0].upper()):
                self.wrong((0,), ((word,) + what[1:], None))

    def test_items_too_few_and_too_many(self):
        for what in WHATS:
            self.wrong((0,), (what[:-1], None))
            self.wrong((0,), (what + (1,), None))
            self.wrong((0,), (what[:1], None))

    def test_prices(self):
        for what in WHATS:
            for price in (None, 1, 10 ** 6):
                self.assertEqual(need_rule(TWO, (what, price)), (what, price))
            for price in NO_INTEGERS + (0, -1, 10 ** 6 + 1, 10 ** 5000):
                self.wrong((1,), (what, price))

    def test_tasks(self):
        for what in (LEAST, MOST, LOAD):
            self.item(what, 1, SETS, NO_SETS + (None,))
        self.item(CLOSE, 2, SETS, NO_SETS + (None,))

    def test_at(self):
        for what in (LEAST, MOST, LOAD):
            right = [(hours, rooms, people) for hours in (None,) + SETS for rooms in (None,) + SETS
                     for people in (None,) + SETS]
            self.item(what, 2, right, NO_TUPLES + (None, (), (None,), (None,) * 2, (None,) * 4, [None] * 3))
            for index in (0, 1, 2):
                self.item(what, 2, (), [changed(ANY, (index,), value) for value in NO_SETS])

    def test_at_has_numbers_of_the_book(self):
        a_book = book((3,), ((9, ()),), ((0,), (1,)), (), ())
        self.right(("least", (), ((0, 1, 2), (0,), (0, 1)), 0), a_book)
        for at in (((3,), (0,), (0,)), ((0,), (1,), (0,)), ((0,), (0,), (2,))):
            self.wrong((0, 2), (("least", (), at, 0), None), a_book)
        for at in (((), (0,), ()), ((), (), (0,))):
            self.wrong((0, 2), (("most", (), at, 0), None), EMPTY)
        self.right(("most", (), ((3,), (), ()), 0), EMPTY)

    def test_counts(self):
        for what in (LEAST, MOST):
            self.item(what, 3, (0, 1, 2, 3, 40), NO_NUMBERS + (41,))

    def test_loads(self):
        self.item(LOAD, 3, (0, 1, 2), NO_NUMBERS + (161,))
        self.item(LOAD, 4, (1, 2, 160), NO_NUMBERS + (161, 0))
        self.right(("load", (), ANY, 160, 160))
        self.right(("load", (), ANY, 0, 0))
        self.wrong((0, 4), (("load", (), ANY, 160, 159), None))
        self.wrong((0, 3), (("load", (), ANY, 161, 161), None))
        self.wrong((0, 3), (("load", (), ANY, 161, 160), None))

    def test_two_tasks(self):
        for what in (BEFORE, ALIKE, UNLIKE):
            self.item(what, 1, (0,), NO_NUMBERS + (2,))
            self.item(what, 2, (1,), NO_NUMBERS + (2,))
            self.item(what, 2, (), (0,))
            self.right((what[0], 1, 0, what[3]))
            self.wrong((0, 2), ((what[0], 1, 1, what[3]), None))

    def test_gap(self):
        self.item(BEFORE, 3, (0, 1, 80), NO_NUMBERS + (81,))

    def test_sort(self):
        for what in (ALIKE, UNLIKE):
            self.item(what, 3, ("day", "start", "room", "person"), NO_WORDS + ("group", ("day",), 1))

    def test_who(self):
        right = (("person", 0), ("person", 1), ("group", 0), ("group", 1))
        wrong = NO_TUPLES + (
            None, (), ("person",), ("person", 0, 0), ["person", 0], ("room", 0), (0, "person"), ("task", 0),
        )
        wrong += tuple((word, 0) for word in NO_WORDS)
        wrong += tuple((word, value) for word in ("person", "group") for value in NO_NUMBERS + (2,))
        self.item(CLOSE, 1, right, wrong)

    def test_who_is_of_the_book(self):
        a_book = book((1,), (), ((0,),), (1, 2), ())
        self.right(("close", ("person", 0), ()), a_book)
        self.right(("close", ("group", 1), ()), a_book)
        self.wrong((0, 1), (("close", ("person", 1), ()), None), a_book)
        self.wrong((0, 1), (("close", ("group", 2), ()), None), a_book)
        self.wrong((0, 1), (("close", ("person", 0), ()), None), EMPTY)
        self.wrong((0, 1), (("close", ("group", 0), ()), None), EMPTY)

    def test_the_first_comes_first(self):
        for what in WHATS:
            for first in range(1, len(what)):
                wrong = what[:first] + ("x",) * (len(what) - first)
                self.wrong((0, first), (wrong, 0))
            self.wrong((1,), (what, 0))


if __name__ == "__main__":
    unittest.main()
