"""[47], [48]: states and deeds of sessions."""

import unittest

from besthours.best import best
from besthours.book import spots_of
from besthours.choices import need_question
from besthours.clashes import least_clash
from besthours.errors import BadBook, BadDeed, BadParameter, BadQuestion, HourError, NoRow, TooGreat
from besthours.sessions import asked, begun, need_state, played, session_step
from samples import Case, Crowd, EMPTY, NO_INTEGERS, NO_TUPLES, ODD, Odd, book, changed, task

ANY = (None, None, None)
FREE = task()
GROUPED = task(1, None, (), (0,))
NEVER = (("least", (), ANY, 1), None)
GREAT = ((12,) * 7, (), (), (0,), (FREE,) * 40, ((("close", ("group", 0), tuple(range(40))), None),))
# two tasks of one group on a day of three hours, the hour 0 costs 5 for the first one
TWO = book((3,), groups=(0,), tasks=(task(1, None, (), (0,), None, ((0, 5),)), GROUPED))


def at(*hours):
    return tuple(None if hour is None else (hour, None, None) for hour in hours)


def alone(state):
    """A state as it lies in the PAST of those behind it."""
    return state[:3] + ((),)


def question_of(state, word):
    """The question that plan or mend asks of a state."""
    a_book, standing, pins, _ = state
    return (a_book, standing if word == "mend" else None, tuple((number, (spot,)) for number, spot in pins))


def arranged_by_hand(state, word):
    """(STANDING, ANSWER) as best and least_clash tell of the question by itself."""
    question = question_of(state, word)
    found = best(question)
    if found[0] == "none":
        return state[1], ("none", least_clash(question)[0])
    moved = tuple(
        number for number, item in enumerate(state[1]) if item is not None and item != found[1][number])
    return found[1], ("plan", moved, found[3])


def step_by_hand(state, deed):
    """What a deed that isn't refused leads to."""
    a_book, standing, pins, past = state
    word = deed[0]
    answer = None
    if word == "undo":
        return past[-1][:3] + (past[:-1],), None
    if word == "add":
        a_book = changed(a_book, (4,), a_book[4] + (deed[1],))
        standing += (None,)
    elif word == "rule":
        a_book = changed(a_book, (5,), a_book[5] + (deed[1],))
    elif word == "unrule":
        a_book = changed(a_book, (5,), tuple(rule for number, rule in enumerate(a_book[5]) if number != deed[1]))
    elif word == "pin":
        pins = tuple(sorted({**dict(pins), deed[1]: deed[2]}.items()))
    elif word == "unpin":
        pins = tuple(pin for pin in pins if pin[0] != deed[1])
    else:
        standing, answer = arranged_by_hand(state, word)
    return (a_book, standing, pins, past + (alone(state),)), answer


class Acts(Crowd):
    """Rows of deeds, the same ones in each run."""

    def deed(self, state):
        """A deed that isn't refused, or now and then one that is."""
        chance = self.chance
        a_book, _, pins, past = state
        word = chance.choice(
            ("plan", "plan", "mend", "mend", "mend", "add", "rule", "rule", "unrule", "pin", "pin", "unpin", "undo"))
        if word == "add":
            one = self.task(a_book[0], len(a_book[2]), len(a_book[3]))
            return (word, one) if len(a_book[4]) < 4 else ("undo",)
        if word == "rule":
            return (word, (self.what(a_book), chance.choice((None, None, 3))))
        if word == "unrule":
            return (word, chance.randrange(len(a_book[5]) + 1))
        if word in ("pin", "unpin"):
            number = chance.randrange(len(a_book[4]) + (chance.random() < 0.1))
            if word == "unpin":
                return (word, chance.choice([pin[0] for pin in pins]) if pins else number)
            many = len(spots_of(a_book, number)) if number < len(a_book[4]) else 1
            return (word, number, chance.randrange(many + 1))
        return (word,)


class States(Case):
    def test_begun(self):
        crowd = Crowd(471)
        for a_book in [EMPTY, TWO, GREAT] + [crowd.book() for _ in range(20)]:
            state = begun(a_book)
            self.assertEqual(state, (a_book, (None,) * len(a_book[4]), (), ()))
            self.unchangeable(state)
            self.assertEqual(need_state(state), state)
            self.assertEqual(asked(state), (a_book, state[1], ()))

    def test_asked(self):
        state = (TWO, at(None, 2), ((0, 1), (1, 0)), ())
        self.assertEqual(asked(state), (TWO, at(None, 2), ((0, (1,)), (1, (0,)))))
        self.assertEqual(need_question(asked(state=state)), asked(state))
        # mend asks of what stands, wherever the pins are, and PAST has no part in it
        self.assertEqual(asked(state[:3] + ((None, Odd()),)), asked(state))

    def test_states(self):
        for state in (
            (EMPTY, (), (), ()), (TWO, at(0, 0), ((1, 2),), (None,) * 200), (TWO, at(None, 1), ((0, 0), (1, 0)), (1, "x")),
            (book(tasks=(task(1, ()),)), (None,), (), ()),
        ):
            self.assertIs(need_state(state), state)


class Deeds(Case):
    def judge(self, state, deed):
        """The state and answer behind a deed, item by item."""
        found = session_step(state, deed)
        self.unchangeable(found)
        self.assertEqual(found, step_by_hand(state, deed))
        self.assertEqual(need_state(found[0]), found[0])
        return found

    def test_one_of_each(self):
        state, answer = self.judge(begun(TWO), ("plan",))
        self.assertEqual((state[1:3], answer), ((at(1, 0), ()), ("plan", (), 0)))
        self.assertEqual(state[3], (begun(TWO),))
        state, answer = self.judge(state, ("pin", 0, 0))
        self.assertEqual((state[1:3], answer), ((at(1, 0), ((0, 0),)), None))
        state, answer = self.judge(state, ("mend",))
        self.assertEqual((state[1], answer), (at(0, 1), ("plan", (0, 1), 5)))
        state, _ = self.judge(state, ("add", GROUPED))
        self.assertEqual((state[0][4][2], state[1]), (GROUPED, at(0, 1, None)))
        state, answer = self.judge(state, ("mend",))
        # the new task stood nowhere: it doesn't move
        self.assertEqual((state[1], answer), (at(0, 1, 2), ("plan", (), 5)))
        state, _ = self.judge(state, ("unpin", 0))
        self.assertEqual(state[2], ())
        state, answer = self.judge(state, ("plan",))
        self.assertEqual((state[1], answer), (at(1, 0, 2), ("plan", (0, 1), 0)))
        state, _ = self.judge(state, ("rule", (("before", 1, 2, 2), None)))
        state, _ = self.judge(state, ("rule", (("before", 2, 1, 0), None)))
        state, answer = self.judge(state, ("mend",))
        # what stands stays where there is none
        self.assertEqual((state[1], answer), (at(1, 0, 2), ("none", (("rule", 0), ("rule", 1)))))
        state, _ = self.judge(state, ("unrule", 0))
        self.assertEqual(state[0][5], ((("before", 2, 1, 0), None),))
        state, answer = self.judge(state, ("mend",))
        self.assertEqual(answer[0], "plan")
        many = len(state[3])
        state, answer = self.judge(state, ("undo",))
        self.assertEqual((state[1], len(state[3]), answer), (at(1, 0, 2), many - 1, None))
        while state[3]:
            state, _ = self.judge(state, ("undo",))
        self.assertEqual(state, begun(TWO))

    def test_pins(self):
        state = begun(TWO)
        for deed, wanted in (
            (("pin", 1, 2), ((1, 2),)), (("pin", 0, 1), ((0, 1), (1, 2))), (("pin", 1, 0), ((0, 1), (1, 0))),
            (("pin", 1, 0), ((0, 1), (1, 0))), (("unpin", 0), ((1, 0),)), (("pin", 0, 0), ((0, 0), (1, 0))),
        ):
            state, _ = self.judge(state, deed)
            self.assertEqual(state[2], wanted)
        # both at the hour 0: there is no plan, and nothing stands
        state, answer = self.judge(state, ("plan",))
        self.assertEqual((state[1], answer), (
            at(None, None), ("none", (("always", "group", 0), ("fixed", 0), ("fixed", 1)))))

    def test_none_counts_as_done(self):
        state = begun(book((1,), groups=(0,), tasks=(GROUPED, GROUPED)))
        after, answer = self.judge(state, ("mend",))
        self.assertEqual((after, answer), (state[:3] + ((state,),), ("none", (("always", "group", 0),))))
        self.assertEqual(self.judge(after, ("undo",))[0], state)

    def test_rows_of_deeds(self):
        acts = Acts(481)
        answers, kinds = [], []
        for _ in range(60):
            state = begun(acts.small_book(60))
            for _ in range(14):
                deed = acts.deed(state)
                before = repr(state)
                try:
                    session_step(state, deed)
                except HourError as error:
                    kinds.append(type(error))
                    self.assertIn(type(error), (BadParameter, NoRow), deed)
                    # what is refused changes nothing
                    self.assertEqual(repr(state), before)
                    continue
                after, answer = self.judge(state, deed)
                answers.append((deed[0], answer and answer[0]))
                if deed[0] != "undo":
                    # a deed and its undo leave the state as it was
                    self.assertEqual(self.judge(after, ("undo",)), (state, None))
                if answer is not None and answer[0] == "plan":
                    # another mend moves nothing and tells the same price
                    again, more = self.judge(after, ("mend",))
                    if deed[0] == "mend":
                        self.assertEqual((again[1], more), (after[1], ("plan", (), answer[2])))
                state = after
        for kind in (("plan", "plan"), ("plan", "none"), ("mend", "plan"), ("mend", "none"), ("undo", None), ("add", None),
                     ("rule", None), ("unrule", None), ("pin", None), ("unpin", None)):
            self.assertGreater(answers.count(kind), 15, kind)
        self.assertEqual(set(kinds), {BadParameter, NoRow})

    def test_all_taken_back(self):
        acts = Acts(482)
        for _ in range(15):
            first = state = begun(acts.small_book(40))
            states = []
            for _ in range(10):
                deed = acts.deed(state)
                if deed[0] != "undo":
                    try:
                        after = session_step(state, deed)[0]
                    except HourError:
                        continue
                    states.append(state)
                    state = after
            while states:
                state = session_step(state, ("undo",))[0]
                self.assertEqual(state, states.pop())
            self.assertEqual(state, first)
            self.refused(NoRow, {}, session_step, state, ("undo",))


class Past(Case):
    DEEDS = (
        ("add", FREE), ("rule", NEVER), ("unrule", 0), ("pin", 0, 0), ("unpin", 0), ("plan",), ("mend",))

    def test_two_hundred(self):
        a_book = changed(TWO, (5,), ((("least", (), ANY, 0), None),))
        state = begun(a_book)
        for number in range(200):
            state, _ = session_step(state, ("pin", number % 2, number % 3))
        self.assertEqual(len(state[3]), 200)
        for deed in self.DEEDS:
            self.refused(TooGreat, {"most": 200}, session_step, state, deed)
        # the deed's own errors come ahead of it, those of best behind it
        for deed, error, attributes in (
            (("pin", 2, 0), BadParameter, {"value": 2}), (("pin", 0, 3), BadParameter, {"value": 3}),
            (("unpin", True), BadParameter, {"value": True}), (("unrule", 1), BadParameter, {"value": 1}),
            (("add", None), BadBook, {"place": (4, 2)}), (("rule", None), BadBook, {"place": (5, 1)}),
            (("mend", 1), BadDeed, {"place": ()}),
        ):
            self.refused(error, attributes, session_step, state, deed)
        less, answer = session_step(state, ("undo",))
        self.assertEqual((len(less[3]), answer), (199, None))
        self.assertEqual(less, state[3][-1][:3] + (state[3][:-1],))
        for deed in self.DEEDS:
            self.assertEqual(len(session_step(less, deed)[0][3]), 200)
        full = (GREAT, (None,) * 40, (), (0,) * 200)
        self.refused(TooGreat, {"most": 200}, session_step, full, ("plan",))
        self.refused(TooGreat, {"most": 200}, session_step, full, ("mend",))
        for word in ("plan", "mend"):
            self.refused(TooGreat, {"most": 40000}, session_step, changed(full, (3,), ()), (word,))

    def test_nobody_looks_into_it(self):
        things = ODD + (None, (), 0, begun(TWO), (TWO,), [[]])
        for number, thing in enumerate(things):
            past = things[:number] + (thing,)
            state = begun(TWO)[:3] + (past,)
            self.assertIs(need_state(state), state)
            for deed in (("add", FREE), ("rule", NEVER), ("pin", 0, 0), ("plan",), ("mend",)):
                after = session_step(state, deed)[0]
                self.assertEqual(len(after[3]), len(past) + 1)
                # handed on as they are
                self.assertTrue(all(one is other for one, other in zip(past, after[3])))
                self.assertEqual(after[3][-1], alone(state))
                back = session_step(after, ("undo",))[0]
                self.assertTrue(all(one is other for one, other in zip(past, back[3])))
                self.assertEqual(len(back[3]), len(past))

    def test_undo_looks_at_the_last_thing(self):
        right = begun(TWO)
        wrong = NO_TUPLES + (
            None, (), right[:3], right + ((),), list(right), right[:3] + ((right,),), right[:3] + (None,),
            right[:3] + ([],), right[:3] + (0,), right[:3] + (Odd(),), changed(right, (0,), None),
            changed(right, (0, 0), (True,)), changed(right, (0, 5), (0,)), changed(right, (1,), at(0)),
            changed(right, (1,), at(0, 3)), changed(right, (2,), ((0, 3),)), changed(right, (2,), None),
            (book((12,) * 7, ((0, ()),) * 12, tasks=(task(features=()),)), (None,), (), ()))
        for thing in wrong:
            state = right[:3] + ((right, thing),)
            self.assertIs(need_state(state), state)
            self.refused(BadDeed, {"place": (3,)}, session_step, state, ("undo",))
            # what lies deeper isn't looked at
            state = right[:3] + ((thing, begun(EMPTY)),)
            back = session_step(state, ("undo",))[0]
            self.assertEqual(back[:3], begun(EMPTY)[:3])
            self.assertEqual(len(back[3]), 1)
            self.assertIs(back[3][0], thing)
        self.refused(NoRow, {}, session_step, right, ("undo",))


class Played(Case):
    def test_every_beginning(self):
        acts = Acts(483)
        for _ in range(15):
            a_book = acts.small_book(40)
            state, deeds, answers = begun(a_book), (), ()
            self.assertEqual(played(a_book, ()), (state, ()))
            for _ in range(8):
                deed = acts.deed(state)
                try:
                    state, answer = session_step(state, deed)
                except HourError as error:
                    # the errors of the first one that is refused, whatever comes behind it
                    for more in ((), (("undo",), ("x",)), (None,)):
                        with self.assertRaises(type(error)) as caught:
                            played(a_book, deeds + (deed,) + more)
                        self.assertEqual(vars(caught.exception), vars(error))
                    continue
                deeds, answers = deeds + (deed,), answers + (answer,)
                found = played(a_book, deeds)
                self.unchangeable(found)
                self.assertEqual(found, (state, answers))
            self.assertEqual(played(deeds=deeds, book=a_book), (state, answers))

    def test_wrong(self):
        for deeds in (*NO_TUPLES, None, [("plan",)]):
            self.refused(BadParameter, {"value": deeds}, played, TWO, deeds)
            self.refused(BadBook, {"place": ()}, played, None, deeds)
        for deed in NO_TUPLES + (None, ()):
            self.refused(BadDeed, {"place": ()}, played, TWO, (deed,))
            self.refused(BadDeed, {"place": ()}, played, TWO, (("plan",), deed, ("pin", 9, 9)))
        self.refused(BadParameter, {"value": 9}, played, TWO, (("pin", 9, 9), None))
        deeds = (("pin", 0, 0),) * 201
        self.refused(TooGreat, {"most": 200}, played, TWO, deeds)
        self.assertEqual(len(played(TWO, deeds[1:])[0][3]), 200)
        self.assertEqual(len(played(TWO, deeds[1:] + (("undo",), ("pin", 1, 1)))[0][3]), 200)


class Wrong(Case):
    def test_states(self):
        right = (TWO, at(1, 0), ((0, 1),), ())
        cases = [(value, BadDeed, ()) for value in NO_TUPLES + (None, (), right[:3], right + ((),), list(right))]
        cases += [(changed(right, (0,), value), BadBook, ()) for value in NO_TUPLES + (None, ())]
        cases += [(changed(right, (0, 0), (False,)), BadBook, (0,)), (changed(right, (0, 5), (0,)), BadBook, (5, 0))]
        spots = ODD + (
            (), 0, (3, None, None), (0, 0, None), (0, None, 0), (True, None, None), (0, None), (0.0, None, None), Odd())
        standing = NO_TUPLES + (None, (), at(0), at(0, 1, 2), list(at(1, 0))) + tuple((spot, None) for spot in spots)
        standing += tuple(((0, None, None), spot) for spot in spots)
        cases += [(changed(right, (1,), value), BadDeed, (1,)) for value in standing]
        pins = NO_TUPLES + (
            None, (0,), ((0,),), ((0, 0, 0),), ([0, 0],), ((2, 0),), ((-1, 0),), ((0, 3),), ((0, -1),), ((1, 0), (0, 0)),
            ((0, 0), (0, 1)), ((True, 0),), ((0, True),), ((0, 0), (True, 0)), ((0.0, 0),), ((0, 0.0),), ((Odd(), 0),),
            ((0, Odd()),), ((0, None),), ((0, (0,)),))
        cases += [(changed(right, (2,), value), BadDeed, (2,)) for value in pins]
        cases += [(changed(right, (3,), value), BadDeed, (3,)) for value in NO_TUPLES + (None, [], (0,) * 201)]
        # two wrong ones at once: the first is told
        cases += [
            ((None, None, None, None), BadBook, ()), ((TWO, None, None, None), BadDeed, (1,)),
            ((TWO, at(1, 0), None, None), BadDeed, (2,)), ((TWO, (), ((0, 9),), ()), BadDeed, (1,)),
        ]
        for state, error, place in cases:
            for function, more in ((need_state, ()), (asked, ()), (session_step, (None,)), (session_step, (("undo",),))):
                self.refused(error, {"place": place}, function, state, *more)
        crowded = book((12,) * 7, ((0, ()),) * 12, tasks=(task(features=()),))
        self.refused(TooGreat, {"most": 200}, need_state, (crowded, None, None, None))

    def test_books(self):
        for value in NO_TUPLES + (None, ()):
            self.refused(BadBook, {"place": ()}, begun, value)
            self.refused(BadBook, {"place": ()}, played, value, None)
        self.refused(BadBook, {"place": (4, 0)}, begun, changed(EMPTY, (4,), (None,)))

    def test_deeds(self):
        state = begun(TWO)
        words = {"add": 1, "rule": 1, "unrule": 1, "pin": 2, "unpin": 1, "plan": 0, "mend": 0, "undo": 0}
        wrong = [*NO_TUPLES, None, (), ("x",), ("Plan",), ("plan ",), (b"plan",), (True,), (Odd(),), (None,), (("plan",),), ["plan"]]
        for word, many in words.items():
            wrong += [(word,) + (0,) * other for other in range(4) if other != many] + [word, [word] + [0] * many]
            wrong += [(thing,) + (0,) * many for thing in ODD if not isinstance(thing, str)]
        for deed in wrong:
            self.refused(BadDeed, {"place": ()}, session_step, state, deed)

    def test_things_of_deeds(self):
        state = session_step(begun(changed(TWO, (5,), (NEVER,))), ("pin", 1, 0))[0]
        for thing in NO_TUPLES + (None, (), FREE[:5]):
            self.refused(BadBook, {"place": (4, 2)}, session_step, state, ("add", thing))
        self.refused(BadBook, {"place": (4, 2)}, session_step, state, ("add", changed(FREE, (0,), True)))
        self.refused(BadBook, {"place": (4, 2)}, session_step, state, ("add", task(1, (3,))))
        for thing in NO_TUPLES + (None, ()):
            self.refused(BadBook, {"place": (5, 1)}, session_step, state, ("rule", thing))
        self.refused(BadBook, {"place": (5, 1, 0)}, session_step, state, ("rule", (None, None)))
        self.refused(BadBook, {"place": (5, 1, 0, 2)}, session_step, state, ("rule", (("before", 0, 0, 1), 1)))
        self.refused(BadBook, {"place": (5, 1, 1)}, session_step, state, ("rule", (NEVER[0], 0)))
        for thing in NO_INTEGERS + (None, -1, 1):
            self.refused(BadParameter, {"value": thing}, session_step, state, ("unrule", thing))
        for thing in NO_INTEGERS + (None, -1, 2):
            self.refused(BadParameter, {"value": thing}, session_step, state, ("pin", thing, None))
            self.refused(BadParameter, {"value": thing}, session_step, state, ("unpin", thing))
        for thing in NO_INTEGERS + (None, -1, 3):
            self.refused(BadParameter, {"value": thing}, session_step, state, ("pin", 0, thing))
        self.refused(BadParameter, {"value": 0}, session_step, state, ("unpin", 0))
        nowhere = begun(book(tasks=(task(1, ()),)))
        self.refused(BadParameter, {"value": 0}, session_step, nowhere, ("pin", 0, 0))

    def test_too_many(self):
        full = begun(book((2,), tasks=(FREE,) * 40, rules=(NEVER,) * 40))
        self.refused(BadBook, {"place": (4,)}, session_step, full, ("add", FREE))
        self.refused(BadBook, {"place": (5,)}, session_step, full, ("rule", NEVER))
        rooms = ((0, ()),) * 12
        state = begun(book((12,) * 2, rooms))
        self.refused(TooGreat, {"most": 200}, session_step, state, ("add", task(features=())))
        self.assertEqual(len(session_step(state, ("add", task(1, tuple(range(16)), features=())))[0][0][4]), 1)

    def test_questions_that_are_too_great(self):
        state = begun(changed(GREAT, (5,), ()))
        state = session_step(state, ("rule", GREAT[5][0]))[0]
        self.refused(TooGreat, {"most": 40000}, session_step, state, ("plan",))
        self.refused(TooGreat, {"most": 40000}, session_step, state, ("mend",))
        self.refused(TooGreat, {"most": 40000}, need_question, asked(state))
        self.assertRaises(BadQuestion, need_question, asked(state)[:2])


if __name__ == "__main__":
    unittest.main()
