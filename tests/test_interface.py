"""The interface: names and parameters as they stand in the document, each in its own file."""

import importlib
import inspect
import unittest

INTERFACE = {
    "hours": (
        "need_days(days)", "need_set(value, most)", "hours_in(days)", "day_of(days, hour)",
        "day_hours(days, day)", "held_hours(days, length, hour)",
    ),
    "book": (
        "need_book(book)", "spots_of(book, task)", "need_plan(book, plan)", "row_of_plan(book, plan)",
        "plan_of_row(book, row)",
    ),
    "wording": (),
    "texts": (
        "book_text(book)", "read_book(text)", "plan_text(plan)", "read_plan(book, text)",
        "proof_text(steps)", "read_proof(text)",
    ),
    "meaning": (
        "need_rule(book, rule)", "rule_kept(book, rule, plan)", "broken(book, plan)", "keeps(book, plan)",
        "rules_broken(book, plan)", "price_of(book, plan)", "moves_of(book, old, plan)",
    ),
    "choices": (
        "need_question(question)", "sizes(question)", "plan_of(question, row)", "row_of(question, plan)",
        "row_moves(question, row)", "row_price(question, row)",
    ),
    "demands": (
        "demands(question)", "parts(question)", "givens(question, given)", "keeps_all(question, row)",
        "first_broken(question, row)",
    ),
    "sums": (
        "need_sum(sizes, value)", "form_of(sizes, terms, bound)", "weight_of(sizes, one, row)",
        "kept_by(sizes, one, row)", "greatest_under(sizes, one, sets)",
    ),
    "steps": (
        "added(sizes, pairs)", "divided(sizes, one, by)", "capped(sizes, one)", "raised(sizes, one, terms)",
        "clause_steps(sizes, one, sets, at, many)", "cut_steps(sizes, one, other, choice, at, far, many)",
    ),
    "checking": (
        "sums_of(question, given, steps)", "checked(question, given, steps)",
        "is_refutation(question, given, value)", "is_best_paper(question, row, value)",
        "is_clash_paper(question, value)",
    ),
    "search": (
        "narrowed(sizes, sums, fixed)", "search_under(sizes, sums, fixed)", "search(sizes, sums)",
        "is_refuted(sizes, sums, fixed, value)", "search_after(sizes, sums, fixed, many)",
    ),
    "best": ("best(question)", "best_plan(question)", "is_better(question, one, other)"),
    "clashes": ("together(question, lot)", "least_clash(question)", "is_least_clash(question, value)"),
    "changes": ("changed(book, old)", "moved_tasks(book, old, plan)", "carried(old, pairs)"),
    "matchings": (
        "matching(tasks, rooms)", "is_placing(tasks, rooms, value)", "is_lot(tasks, rooms, value)",
        "least_placing(tasks, rooms)", "hour_sums(tasks, rooms)", "lot_steps(tasks, rooms, lot)",
    ),
    "prices": (
        "cheapest(prices, rooms)", "is_bears(prices, rooms, value)", "borne(prices, rooms, bears)",
        "least_cheapest(prices, rooms)", "bears_steps(prices, rooms, bears)",
    ),
    "periods": (
        "held(beats, week)", "meets(one, other)", "first_meeting(one, other)", "follows(one, other)",
        "round_length(beats)", "unrolled(beats)", "most_at_once(beats)", "fits(beats, rooms)",
        "all_fit(periods, rooms)", "is_chain(periods)", "chain_phases(periods, rooms)",
    ),
    "asks": (
        "held_to(question, task, spots)", "may(question, task, spot)", "why_not(question, task, spot)",
        "swap(question, plan, task, spot)",
    ),
    "sure": (
        "possible(question, task)", "is_possible(question, task, value)", "out_of(question, tasks, at)",
        "sure(question, tasks, at)", "is_sure(question, tasks, at, value)",
    ),
    "loads": (
        "ruled(question, what)", "least_load(question, tasks, at)", "greatest_load(question, tasks, at)",
        "is_least_load(question, tasks, at, value)", "is_greatest_load(question, tasks, at, value)",
    ),
    "sessions": (
        "begun(book)", "need_state(state)", "asked(state)", "session_step(state, deed)", "played(book, deeds)",
    ),
}


class Interface(unittest.TestCase):
    def test_functions(self):
        for file, functions in INTERFACE.items():
            module = importlib.import_module("besthours." + file)
            for told in functions:
                name = told.split("(")[0]
                function = getattr(module, name)
                self.assertEqual(name + str(inspect.signature(function)), told)
                self.assertEqual(function.__module__, module.__name__, name)

    def test_parameters_by_name(self):
        from samples import EMPTY
        from besthours import (
            best, book, changes, checking, choices, clashes, demands, hours, matchings, meaning, periods, prices, search,
            steps, sums, texts,
        )
        self.assertEqual(hours.need_days(days=(1,)), (1,))
        self.assertEqual(hours.need_set(most=3, value=(1,)), (1,))
        self.assertEqual(hours.held_hours(hour=0, length=1, days=(1,)), (0,))
        self.assertEqual(book.plan_of_row(row=(), book=EMPTY), ())
        self.assertEqual(texts.read_plan(text="plan ( )", book=EMPTY), ())
        self.assertEqual(meaning.moves_of(plan=(), old=None, book=EMPTY), ())
        asked = (EMPTY, None, ())
        self.assertEqual(choices.row_price(row=(), question=asked), 0)
        self.assertEqual(demands.givens(given=(), question=asked), ())
        one, other = (((0, (0, 1)),), 1), (((0, (1, 0)),), 1)
        self.assertEqual(sums.greatest_under(sets=((0,),), one=one, sizes=(2,)), 0)
        self.assertEqual(sums.form_of(bound=1, terms=(), sizes=()), ((), 1))
        self.assertEqual(steps.clause_steps(many=3, at=2, sets=((0,),), one=one, sizes=(2,)), (one, ()))
        self.assertEqual(
            steps.cut_steps(many=3, far=2, at=1, choice=0, other=other, one=one, sizes=(2,)),
            (((), 1), (("add", ((1, 1), (2, 1))),)))
        self.assertEqual(checking.sums_of(steps=(), given=(), question=asked), ())
        self.assertIs(checking.is_best_paper(value=((), (), (), ()), row=(), question=asked), True)
        self.assertEqual(search.search(sums=(one,), sizes=(2,)), ("row", (1,)))
        self.assertIs(search.is_refuted(value=(), fixed=(), sums=(one,), sizes=(2,)), False)
        self.assertEqual(
            search.search_after(many=0, fixed=(), sums=(one,), sizes=(2,)), (((0, 1),), (), (2,), ()))
        self.assertIs(best.is_better(other=(), one=(), question=asked), False)
        self.assertEqual(clashes.together(lot=(), question=asked), ("row", ()))
        self.assertIs(clashes.is_least_clash(value=None, question=asked), False)

    def test_more_parameters_by_name(self):
        from samples import EMPTY
        from besthours import changes, matchings, periods, prices
        self.assertEqual(changes.changed(old=(), book=EMPTY)[:2], ("plan", ()))
        self.assertEqual(changes.moved_tasks(plan=(), old=(), book=EMPTY), ())
        self.assertEqual(changes.carried(pairs=(None,), old=()), (None,))
        self.assertEqual(matchings.matching(rooms=(1,), tasks=((0,),)), ("plan", (0,)))
        self.assertIs(matchings.is_placing(value=(0,), rooms=(1,), tasks=((0,),)), True)
        self.assertIs(matchings.is_lot(value=(0,), rooms=(0,), tasks=((0,),)), True)
        self.assertEqual(matchings.least_placing(rooms=(1,), tasks=((0,),)), (0,))
        self.assertEqual(matchings.hour_sums(rooms=(0,), tasks=((0,),)), (((), 1),))
        self.assertEqual(
            matchings.lot_steps(lot=(0,), rooms=(0,), tasks=((0,),)), (("demand", 0), ("add", ((0, 1),))))
        priced = (((0, 3),),)
        self.assertEqual(prices.cheapest(rooms=(1,), prices=priced), ("plan", (0,), 3, ((3,), (0,))))
        self.assertIs(prices.is_bears(value=((3,), (0,)), rooms=(1,), prices=priced), True)
        self.assertEqual(prices.borne(bears=((2,), (0,)), rooms=(1,), prices=priced), 2)
        self.assertEqual(prices.least_cheapest(rooms=(1,), prices=priced), (0,))
        self.assertEqual(
            prices.bears_steps(bears=((3,), (0,)), rooms=(1,), prices=priced), (("add", ()), ("raise", 0, ((0, (0,)),))))
        self.assertEqual(periods.held(week=3, beats=((2, 1),)), (0,))
        self.assertIs(periods.meets(other=(2, 1), one=(2, 0)), False)
        self.assertEqual(periods.first_meeting(other=(2, 1), one=(1, 0)), 1)
        self.assertIs(periods.follows(other=(2, 1), one=(2, 0)), True)
        self.assertEqual(periods.round_length(beats=((2, 1),)), 2)
        self.assertEqual(periods.unrolled(beats=((2, 1),)), ((), (0,)))
        self.assertEqual(periods.most_at_once(beats=((2, 1),)), 1)
        self.assertIs(periods.fits(rooms=0, beats=((2, 1),)), False)
        self.assertEqual(periods.all_fit(rooms=1, periods=(2, 2)), (0, 1))
        self.assertIs(periods.is_chain(periods=(2, 3)), False)
        self.assertEqual(periods.chain_phases(rooms=1, periods=(2, 2)), ("phases", (0, 1)))

    def test_last_parameters_by_name(self):
        from samples import book, task
        from besthours import asks, loads, sessions, sure
        made = book((1,), tasks=(task(),))
        question, plan, any_at = (made, None, ()), ((0, None, None),), (None, None, None)
        self.assertEqual(asks.held_to(spots=(0,), task=0, question=question), (made, None, ((0, (0,)),)))
        self.assertEqual(asks.may(spot=0, task=0, question=question)[:2], ("plan", plan))
        self.assertEqual(asks.why_not(spot=0, task=0, question=question), ("best",))
        self.assertEqual(asks.swap(spot=0, task=0, plan=plan, question=question)[:3], ("plan", plan, 0))
        self.assertEqual(sure.possible(task=0, question=question), ((0,), (plan,), ()))
        self.assertIs(sure.is_possible(value=((0,), (plan,), ()), task=0, question=question), True)
        self.assertEqual(sure.out_of(at=any_at, tasks=(0,), question=question), (made, None, ((0, ()),)))
        self.assertEqual(sure.sure(at=any_at, tasks=(0,), question=question)[0], "sure")
        self.assertIs(sure.is_sure(value=("not", plan), at=any_at, tasks=(), question=question), True)
        self.assertEqual(loads.ruled(what=("least", (), any_at, 0), question=question)[0][4], made[4])
        found = loads.least_load(at=any_at, tasks=(0,), question=question)
        self.assertEqual(found[:2], (1, plan))
        self.assertIs(loads.is_least_load(value=found, at=any_at, tasks=(0,), question=question), True)
        found = loads.greatest_load(at=any_at, tasks=(0,), question=question)
        self.assertEqual(found, (1, plan, ()))
        self.assertIs(loads.is_greatest_load(value=found, at=any_at, tasks=(0,), question=question), True)
        state = sessions.begun(book=made)
        self.assertEqual(sessions.need_state(state=state), state)
        self.assertEqual(sessions.asked(state=state), (made, (None,), ()))
        self.assertEqual(sessions.session_step(deed=("plan",), state=state)[1], ("plan", (), 0))
        self.assertEqual(sessions.played(deeds=(), book=made), (state, ()))


if __name__ == "__main__":
    unittest.main()
