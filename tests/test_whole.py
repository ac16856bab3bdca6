"""[6], "What is promised", over the whole program: what its parts tell of one book agrees, and the checker takes it."""

import unittest

from besthours.asks import held_to, may, swap, why_not
from besthours.best import best, best_plan, is_better
from besthours.book import plan_of_row, row_of_plan, spots_of
from besthours.changes import carried, changed, moved_tasks
from besthours.checking import checked, is_best_paper, is_clash_paper, is_refutation
from besthours.choices import plan_of, row_moves, row_of, row_price
from besthours.clashes import is_least_clash, least_clash, together
from besthours.demands import demands, first_broken, keeps_all, parts
from besthours.errors import NoRow
from besthours.loads import greatest_load, is_greatest_load, is_least_load, least_load, ruled
from besthours.meaning import broken, keeps, moves_of, price_of, rules_broken
from besthours.search import search
from besthours.choices import sizes
from besthours.sessions import asked, begun, played, session_step
from besthours.sure import is_possible, is_sure, possible, sure
from besthours.texts import book_text, plan_text, proof_text, read_book, read_plan, read_proof
from samples import Case, Crowd
from test_best import let_plans
from test_sure import ANY, is_in_at


def old_at(question):
    """OLD with None for each task if there is none."""
    return (None,) * len(question[0][4]) if question[1] is None else question[1]


class Whole(Case):
    def test_questions(self):
        crowd = Crowd(611)
        words = []
        for _ in range(150):
            question = crowd.question(60)
            found = best(question)
            words.append(found[0])
            if found[0] == "plan":
                self.with_a_plan(crowd, question, found)
            else:
                self.without_a_plan(question, found)
            self.either_way(crowd, question, found)
        self.assertGreater(min(words.count("plan"), words.count("none")), 40)

    def with_a_plan(self, crowd, question, found):
        a_book, old, fixed = question
        _, plan, moves, price, paper = found
        row = row_of(question, plan)
        # the plan, its meaning, price, moves and row
        self.assertEqual(best_plan(question), plan)
        self.assertIsNone(broken(a_book, plan))
        self.assertIs(keeps(a_book, plan), True)
        self.assertEqual(price_of(a_book, plan), price)
        self.assertEqual(len(moves_of(a_book, old, plan)), moves)
        self.assertEqual((row_moves(question, row), row_price(question, row)), (moves, price))
        self.assertEqual((plan_of(question, row), plan_of_row(a_book, row[:len(plan)])), (plan, plan))
        self.assertEqual(row_of_plan(a_book, plan), row[:len(plan)])
        self.assertTrue(all(row[number] in spots for number, spots in fixed))
        self.assertTrue(all(a_book[5][number][1] is not None for number in rules_broken(a_book, plan)))
        # its demands and paper
        self.assertIs(keeps_all(question, row), True)
        self.refused(NoRow, {}, first_broken, question, row)
        self.refused(NoRow, {}, least_clash, question)
        self.assertEqual(together(question, parts(question))[0], "row")
        self.assertIs(is_best_paper(question, row, paper), True)
        self.texts(question, plan, paper)
        # no plan that is let is better
        for one in let_plans(question)[1:]:
            self.assertIs(is_better(question, plan, one[3]), True)
            self.assertIs(is_best_paper(question, row_of(question, one[3]), paper), False)
        self.changes(question, found)
        self.asks(crowd, question, found)

    def texts(self, question, plan, paper):
        a_book = question[0]
        self.assertEqual(read_book(book_text(a_book)), a_book)
        self.assertEqual(read_plan(a_book, plan_text(plan)), plan)
        proofs = tuple(read_proof(proof_text(steps)) for steps in paper[:3])
        self.assertEqual(proofs, paper[:3])
        told = read_book(book_text(a_book))
        self.assertIs(is_best_paper((told,) + question[1:], row_of(question, plan), proofs + paper[3:]), True)

    def changes(self, question, found):
        a_book, old, fixed = question
        _, plan, moves, price, _ = found
        if fixed == ():
            there = changed(a_book, old_at(question))
            self.assertEqual(there[:2] + there[3:4], ("plan", plan, price))
            self.assertEqual(len(there[2]), moves)
            self.assertEqual(moved_tasks(a_book, old_at(question), plan), there[2])
        # from the plan nothing moves, in another order of the tasks neither
        self.assertEqual(changed(a_book, plan)[:4], ("plan", plan, (), price))
        free = a_book[:5] + ((),)
        many = len(plan)
        turned = tuple(range(many - 1, -1, -1))
        other = free[:4] + (tuple(free[4][number] for number in turned), ())
        self.assertEqual(changed(other, carried(plan, turned))[1:3], (plan[::-1], ()))

    def asks(self, crowd, question, found):
        a_book = question[0]
        plan = found[1]
        row = row_of_plan(a_book, plan)
        for number in range(len(plan)):
            spots, plans, _ = possible(question, number)
            self.assertIn(row[number], spots)
            self.assertEqual(why_not(question, number, row[number]), ("best",))
            self.assertEqual(may(question, number, row[number])[:4], found[:4])
            self.assertEqual(swap(question, plan, number, row[number])[:3], ("plan", plan, 0))
            other = crowd.chance.randrange(len(spots_of(a_book, number)))
            answer, why = may(question, number, other), why_not(question, number, other)
            self.assertEqual(answer[0] == "plan", other in spots)
            self.assertEqual(why[0] == "none", other not in spots)
            self.assertEqual(swap(question, plan, number, other)[0], answer[0])
            if other in spots:
                there = plans[spots.index(other)]
                self.assertIs(is_better(question, there, answer[1]), False)
                self.assertIs(is_better(question, answer[1], plan), False)

    def without_a_plan(self, question, found):
        _, steps = found
        self.assertIs(is_refutation(question, (), steps), True)
        self.assertIsNone(checked(question, (), steps))
        self.assertEqual(read_proof(proof_text(steps)), steps)
        self.refused(NoRow, {}, best_plan, question)
        self.assertEqual(together(question, parts(question))[0], "proof")
        clash = least_clash(question)
        lot, proof, rows = clash
        self.assertIs(is_clash_paper(question, clash), True)
        self.assertIs(is_least_clash(question, (lot, read_proof(proof_text(proof)), rows)), True)
        self.assertIs(is_refutation(question, (), proof), True)
        self.assertEqual(together(question, lot)[0], "proof")
        for number in range(len(lot)):
            self.assertEqual(together(question, lot[:number] + lot[number + 1:])[0], "row")
        for number in range(len(question[0][4])):
            spots, plans, proofs = possible(question, number)
            self.assertEqual((spots, plans, len(proofs)), ((), (), len(spots_of(question[0], number))))
            for spot in range(len(proofs)):
                self.assertEqual(may(question, number, spot)[0], "none")
        self.refused(NoRow, {}, least_load, question, (), ANY)
        self.refused(NoRow, {}, greatest_load, question, (), ANY)

    def either_way(self, crowd, question, found):
        a_book, old, fixed = question
        # the search over the demands, not asked for the best
        word, _ = search(sizes(question), tuple(one for _, one in demands(question)))
        self.assertEqual(word == "row", found[0] == "plan")
        tasks, at = crowd.set_of(len(a_book[4]), 0.7), crowd.at(a_book)
        answer = sure(question, tasks, at)
        self.assertIs(is_sure(question, tasks, at, answer), True)
        for number in range(len(a_book[4])):
            self.assertIs(is_possible(question, number, possible(question, number)), True)
        if found[0] == "plan":
            self.loads(question, tasks, at, answer)
        else:
            self.assertEqual(answer[0], "sure")
        self.session(question, found)

    def loads(self, question, tasks, at, answer):
        least, greatest = least_load(question, tasks, at), greatest_load(question, tasks, at)
        self.assertIs(is_least_load(question, tasks, at, least), True)
        self.assertIs(is_greatest_load(question, tasks, at, greatest), True)
        self.assertEqual(answer[0] == "sure", least[0] > 0)
        every = question[0][4]
        loads = [
            sum(every[number][0] for number in tasks if is_in_at(every[number], one[3][number], at))
            for one in let_plans(question)]
        self.assertEqual((least[0], greatest[0]), (min(loads), max(loads)))
        # with just this load asked for there is a plan, beyond it there is none
        same = ruled(question, ("load", tasks, at, least[0], least[0]))
        self.assertEqual(best(same)[0], "plan")
        if greatest[2]:
            self.assertEqual(best(ruled(question, ("load", tasks, at, greatest[0] + 1, 160)))[0], "none")

    def session(self, question, found):
        """A session that comes to the same book tells the same."""
        a_book, old, fixed = question
        empty = a_book[:4] + ((), ())
        deeds = tuple(("add", one) for one in a_book[4]) + tuple(("rule", rule) for rule in a_book[5])
        pins = tuple((number, spots[0]) for number, spots in fixed if spots)
        deeds += tuple(("pin", number, spot) for number, spot in pins) + (("plan",), ("mend",))
        state, answers = played(empty, deeds)
        self.assertEqual(state[0], a_book)
        pinned = (a_book, None, tuple((number, (spot,)) for number, spot in pins))
        there = best(pinned)
        if there[0] == "plan":
            self.assertEqual(answers[-2:], (("plan", (), there[3]),) * 2)
            self.assertEqual(state[1], there[1])
            self.assertEqual(changed(a_book, state[1])[1:3], (state[1], ()))
            self.assertEqual(asked(state), (a_book, there[1], pinned[2]))
        else:
            self.assertEqual(answers[-2:], (("none", least_clash(pinned)[0]),) * 2)
            self.assertEqual(state[1], (None,) * len(a_book[4]))
        if fixed == ():
            self.assertEqual(there[0], found[0])
        for number, (spot,) in pinned[2]:
            self.assertEqual(held_to((a_book, None, ()), number, (spot,))[2], ((number, (spot,)),))
        for _ in deeds:
            state = session_step(state, ("undo",))[0]
        self.assertEqual(state, begun(empty))


class Year(Case):
    def test_a_timetable_through_a_year(self):
        """Thirty tasks of five groups, four people, three rooms, on five days of six hours."""
        rooms = ((30, ()), (30, (1,)), (60, ()))
        people = (tuple(range(30)),) * 3 + (tuple(range(0, 30, 2)),)
        empty = ((6,) * 5, rooms, people, (20,) * 5, (), ())
        tasks = tuple(
            (1, None, (number % 4,), (number % 5,), () if number % 3 else (1,), ((0, 3),)) for number in range(30))
        deeds = tuple(("add", one) for one in tasks) + (("plan",), ("mend",))
        deeds += (("rule", (("close", ("group", 0), (0, 5, 10, 15, 20, 25)), 40)), ("mend",))
        deeds += (("rule", (("most", tuple(range(30)), ((0,), None, None), 1), None)), ("mend",), ("mend",))
        state, answers = played(empty, deeds)
        told = [answer for answer in answers if answer is not None]
        self.assertEqual([answer[0] for answer in told], ["plan"] * 5)
        self.assertEqual(told[1], ("plan", (), told[0][2]))
        self.assertEqual(told[4], ("plan", (), told[3][2]))
        question = asked(state)
        self.assertEqual(best(question)[1:3], (state[1], 0))
        # the first hour isn't surely taken; at most one task is there
        every = tuple(range(30))
        first = ((0,), None, None)
        self.assertEqual(sure(question, every, first)[0], "not")
        greatest = greatest_load(question, every, first)
        self.assertEqual(greatest[0], 1)
        self.assertIs(is_greatest_load(question, every, first, greatest), True)
        found = possible(question, 3)
        self.assertIs(is_possible(question, 3, found), True)


if __name__ == "__main__":
    unittest.main()
