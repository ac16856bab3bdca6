"""The interface: names and parameters as they stand in the document, each in its own file."""

import importlib
import inspect
import unittest

INTERFACE = {
    "hours": (
        "need_days(days)", "need_set(value, most)", "hours_in(days)", "day_of(days, hour)",
        "day_hours(days, day)", "held_hours(days, length, hour)",
    ),
    "book": (
        "need_book(book)", "spots_of(book, task)", "need_plan(book, plan)", "row_of_plan(book, plan)",
        "plan_of_row(book, row)",
    ),
    "wording": (),
    "texts": (
        "book_text(book)", "read_book(text)", "plan_text(plan)", "read_plan(book, text)",
        "proof_text(steps)", "read_proof(text)",
    ),
    "meaning": (
        "need_rule(book, rule)", "rule_kept(book, rule, plan)", "broken(book, plan)", "keeps(book, plan)",
        "rules_broken(book, plan)", "price_of(book, plan)", "moves_of(book, old, plan)",
    ),
    "choices": (
        "need_question(question)", "sizes(question)", "plan_of(question, row)", "row_of(question, plan)",
        "row_moves(question, row)", "row_price(question, row)",
    ),
    "demands": (
        "demands(question)", "parts(question)", "givens(question, given)", "keeps_all(question, row)",
        "first_broken(question, row)",
    ),
    "sums": (
        "need_sum(sizes, value)", "form_of(sizes, terms, bound)", "weight_of(sizes, one, row)",
        "kept_by(sizes, one, row)", "greatest_under(sizes, one, sets)",
    ),
    "steps": (
        "added(sizes, pairs)", "divided(sizes, one, by)", "capped(sizes, one)", "raised(sizes, one, terms)",
        "clause_steps(sizes, one, sets, at, many)", "cut_steps(sizes, one, other, choice, at, far, many)",
    ),
    "checking": (
        "sums_of(question, given, steps)", "checked(question, given, steps)",
        "is_refutation(question, given, value)", "is_best_paper(question, row, value)",
        "is_clash_paper(question, value)",
    ),
    "search": (
        "narrowed(sizes, sums, fixed)", "search_under(sizes, sums, fixed)", "search(sizes, sums)",
        "is_refuted(sizes, sums, fixed, value)", "search_after(sizes, sums, fixed, many)",
    ),
    "best": ("best(question)", "best_plan(question)", "is_better(question, one, other)"),
    "clashes": ("together(question, lot)", "least_clash(question)", "is_least_clash(question, value)"),
}


class Interface(unittest.TestCase):
    def test_functions(self):
        for file, functions in INTERFACE.items():
            module = importlib.import_module("besthours." + file)
            for told in functions:
                name = told.split("(")[0]
                function = getattr(module, name)
                self.assertEqual(name + str(inspect.signature(function)), told)
                self.assertEqual(function.__module__, module.__name__, name)

    def test_parameters_by_name(self):
        from samples import EMPTY
        from besthours import (
            best, book, checking, choices, clashes, demands, hours, meaning, search, steps, sums, texts,
        )
        self.assertEqual(hours.need_days(days=(1,)), (1,))
        self.assertEqual(hours.need_set(most=3, value=(1,)), (1,))
        self.assertEqual(hours.held_hours(hour=0, length=1, days=(1,)), (0,))
        self.assertEqual(book.plan_of_row(row=(), book=EMPTY), ())
        self.assertEqual(texts.read_plan(text="plan ( )", book=EMPTY), ())
        self.assertEqual(meaning.moves_of(plan=(), old=None, book=EMPTY), ())
        asked = (EMPTY, None, ())
        self.assertEqual(choices.row_price(row=(), question=asked), 0)
        self.assertEqual(demands.givens(given=(), question=asked), ())
        one, other = (((0, (0, 1)),), 1), (((0, (1, 0)),), 1)
        self.assertEqual(sums.greatest_under(sets=((0,),), one=one, sizes=(2,)), 0)
        self.assertEqual(sums.form_of(bound=1, terms=(), sizes=()), ((), 1))
        self.assertEqual(steps.clause_steps(many=3, at=2, sets=((0,),), one=one, sizes=(2,)), (one, ()))
        self.assertEqual(
            steps.cut_steps(many=3, far=2, at=1, choice=0, other=other, one=one, sizes=(2,)),
            (((), 1), (("add", ((1, 1), (2, 1))),)))
        self.assertEqual(checking.sums_of(steps=(), given=(), question=asked), ())
        self.assertIs(checking.is_best_paper(value=((), (), (), ()), row=(), question=asked), True)
        self.assertEqual(search.search(sums=(one,), sizes=(2,)), ("row", (1,)))
        self.assertIs(search.is_refuted(value=(), fixed=(), sums=(one,), sizes=(2,)), False)
        self.assertEqual(
            search.search_after(many=0, fixed=(), sums=(one,), sizes=(2,)), (((0, 1),), (), (2,), ()))
        self.assertIs(best.is_better(other=(), one=(), question=asked), False)
        self.assertEqual(clashes.together(lot=(), question=asked), ("row", ()))
        self.assertIs(clashes.is_least_clash(value=None, question=asked), False)


if __name__ == "__main__":
    unittest.main()
