"""[6], [12], [13], [14]: texts of books, plans and proofs, written and read."""

import random
import unittest

from besthours.errors import BadBook, BadPlan, BadProof, BadText, TooGreat
from besthours.texts import book_text, plan_text, proof_text, read_book, read_plan, read_proof
from samples import (
    Case, EMPTY, EXAMPLE, MEETABLE, Maker, NO_INTEGERS, NO_TUPLES, ODD, Odd, RICH, book, changed, task,
)

GREATEST = 10 ** 600 - 1

EMPTY_TEXT = """book (
4
) (
) (
) (
) (
) (
)"""

RICH_TEXT = """book (
3
2
) (
room 30 { 1 }
room 20 { }
room 40 { 1 2 }
) (
may { 0 1 2 3 }
may { 1 2 4 }
) (
25
10
) (
task 1 any { 0 1 } { 0 } { 1 } ( price 0 5 price 2 7 )
task 2 { 0 1 3 } { 0 } { 1 } { } ( )
task 1 { 2 4 } { } { } none ( price 4 1000000 )
task 3 any { } { 0 1 } none ( )
task 4 any { } { } none ( )
) (
rule least { 0 1 } at { 0 1 } any { 0 } 1 must
rule most { 0 1 2 } at any { 0 2 } any 2 3
rule load { 0 3 } at any any any 0 160 1000000
rule before 0 2 1 must
rule alike 1 0 room 1
rule unlike 0 4 day must
rule close group 1 { 1 3 } 2
rule close person 0 { } must
)"""

STEPS = (
    ("demand", 0), ("given", 3), ("add", ()), ("add", ((0, 1), (2, 0))), ("divide", 2, 0), ("cap", 7),
    ("raise", 4, ()), ("raise", GREATEST, ((5, (0, 1, GREATEST)), (5, ()), (1, (3,)))),
)

STEPS_TEXT = f"""proof (
demand 0
given 3
add ( )
add ( times 0 1 times 2 0 )
divide 2 0
cap 7
raise 4 ( )
raise {GREATEST} ( weights 5 ( 0 1 {GREATEST} ) weights 5 ( ) weights 1 ( 3 ) )
)"""

PLAN = ((0, 0, 0), (0, 0, 0), (2, None, None), (0, None, None))
PLAN_TEXT = """plan (
spot 0 0 0
spot 0 0 0
spot 2 none none
spot 0 none none
)"""

SORTS_TEXT = "rule alike 0 1 day must rule unlike 1 0 start 1 rule alike 0 1 person 2 rule alike 0 1 room 3"


def words_of(text):
    """The words of a text with their places, told without the package."""
    return [
        (line, number, word)
        for line, row in enumerate(text.split("\n"))
        for number, word in enumerate(piece for piece in row.split(" ") if piece)
    ]


class Written(Case):
    def test_books(self):
        self.assertEqual(book_text(EMPTY), EMPTY_TEXT)
        self.assertEqual(book_text(RICH), RICH_TEXT)

    def test_plans(self):
        self.assertEqual(plan_text(()), "plan (\n)")
        self.assertEqual(plan_text(((0, 1, None), (4, None, None))), "plan (\nspot 0 1 none\nspot 4 none none\n)")
        self.assertEqual(plan_text(PLAN), PLAN_TEXT)
        self.assertEqual(plan_text(((1000, 1000, 1000), (0, None, 0))), "plan (\nspot 1000 1000 1000\nspot 0 none 0\n)")
        self.assertEqual(plan_text(((0, 0, 0),) * 100).count("\n"), 101)

    def test_proofs(self):
        self.assertEqual(proof_text(()), "proof (\n)")
        self.assertEqual(proof_text(STEPS), STEPS_TEXT)

    def test_wrong_books(self):
        self.refused(BadBook, {"place": ()}, book_text, None)
        self.refused(BadBook, {"place": (5, 0, 0, 2)}, book_text, changed(RICH, (5, 0, 0, 2), None))
        great = book((12,) * 7, ((0, ()),) * 3, (), (), (task(features=()),))
        self.refused(TooGreat, {"most": 200}, book_text, great)

    def test_wrong_plans(self):
        for plan in NO_TUPLES + (None, [(0, 0, 0)]):
            self.refused(BadPlan, {"place": ()}, plan_text, plan)
        wrong = ODD + (
            None, 0, (), (0, 0), (0, 0, 0, 0), [0, 0, 0], (None, 0, 0), (-1, 0, 0), (0, -1, 0), (0, 0, -1),
            (1001, 0, 0), (0, 1001, 0), (0, 0, 1001), (10 ** 5000, 0, 0),
        )
        wrong += tuple(changed((1, 1, 1), (at,), value) for at in (0, 1, 2) for value in NO_INTEGERS)
        for spot in wrong:
            self.refused(BadPlan, {"place": (0,)}, plan_text, (spot,))
            self.refused(BadPlan, {"place": (2,)}, plan_text, ((0, 0, 0), (0, None, None), spot, None))

    def test_wrong_steps(self):
        for steps in NO_TUPLES + (None, list(STEPS)):
            self.refused(BadProof, {"place": ()}, proof_text, steps)
        no_steps = ODD + (
            None, 0, (), ("demand",), ("demand", 0, 0), ["demand", 0], ("Demand", 0), ("", 0), (0, "demand"),
            ("given",), ("given", 0, 0), ("add",), ("add", 0), ("add", (), ()), ("add", None), ("add", [(0, 1)]),
            ("add", (0, 1)), ("add", ((0,),)), ("add", ((0, 1, 2),)), ("add", ([0, 1],)), ("add", ((0, 1), None)),
            ("divide", 0), ("divide", 0, 1, 2), ("divide", 1, None), ("cap",), ("cap", 0, 0), ("cap", ()),
            ("raise", 0), ("raise", 0, (), ()), ("raise", 0, None), ("raise", 0, [(0, ())]), ("raise", 0, (0, ())),
            ("raise", 0, ((0,),)), ("raise", 0, ((0, (), ()),)), ("raise", 0, ([0, ()],)), ("raise", 0, ((0, 1),)),
            ("raise", 0, ((0, [1]),)), ("raise", 0, ((0, None),)), (b"cap", 0), (None, 0), ("weights", 0, ()),
            ("times", 0, 0), (("cap", 0),), ("moves", 0), (Odd(), 0), (1.0, 0),
        )
        for value in NO_INTEGERS + (None, -1, GREATEST + 1, 10 ** 5000):
            no_steps += (
                ("demand", value), ("given", value), ("add", ((value, 1),)), ("add", ((0, 1), (1, value))),
                ("divide", value, 1), ("divide", 0, value), ("cap", value), ("raise", value, ()),
                ("raise", 0, ((value, ()),)), ("raise", 0, ((0, (value,)),)), ("raise", 0, ((0, (1, value)),)),
            )
        for step in no_steps:
            self.refused(BadProof, {"place": (0,)}, proof_text, (step,))
            self.refused(BadProof, {"place": (2,)}, proof_text, (("cap", 0), ("add", ()), step, None))

    def test_the_greatest_number(self):
        for step in (("demand", GREATEST), ("given", GREATEST), ("divide", GREATEST, GREATEST), ("cap", GREATEST)):
            self.assertEqual(read_proof(proof_text((step,))), (step,))
        self.refused(BadProof, {"place": (0,)}, proof_text, (("cap", GREATEST + 1),))


class ThereAndBack(Case):
    def both(self, value, text, read, write, *ahead):
        """What is written is read as it was, and the other way round word by word."""
        self.assertEqual(read(*ahead, text), value)
        self.unchangeable(read(*ahead, text))
        self.assertEqual(write(read(*ahead, text)), text)
        chance = random.Random(5)
        words = text.split()
        for _ in range(3):
            other = "".join(word + chance.choice((" ", "\n", "   ", "\n\n ", " \n")) for word in words)
            self.assertEqual(read(*ahead, " \n " + other), value)
            self.assertEqual(read(*ahead, other.rstrip()), value)
        self.assertEqual(read(*ahead, " ".join(words)), value)
        self.assertEqual(read(*ahead, "\n".join(words)), value)

    def test_books(self):
        self.both(EMPTY, EMPTY_TEXT, read_book, book_text)
        self.both(RICH, RICH_TEXT, read_book, book_text)

    def test_books_by_chance(self):
        maker = Maker(21)
        for _ in range(200):
            a_book = maker.book()
            self.both(a_book, book_text(a_book), read_book, book_text)

    def test_sorts(self):
        rules = (
            (("alike", 0, 1, "day"), None), (("unlike", 1, 0, "start"), 1), (("alike", 0, 1, "person"), 2),
            (("alike", 0, 1, "room"), 3),
        )
        a_book = book(tasks=(task(), task()), rules=rules)
        self.assertEqual(" ".join(book_text(a_book).split()).split(" ) ( ")[-1], SORTS_TEXT + " )")
        self.both(a_book, book_text(a_book), read_book, book_text)

    def test_plans(self):
        self.both((), "plan (\n)", read_plan, plan_text, EMPTY)
        self.both(PLAN, PLAN_TEXT, read_plan, plan_text, MEETABLE)

    def test_plans_by_chance(self):
        maker = Maker(22)
        for _ in range(100):
            a_book = maker.meetable_book()
            plan = maker.plan(a_book)
            self.both(plan, plan_text(plan), read_plan, plan_text, a_book)

    def test_proofs(self):
        self.both((), "proof (\n)", read_proof, proof_text)
        self.both(STEPS, STEPS_TEXT, read_proof, proof_text)

    def test_proofs_by_chance(self):
        chance = random.Random(23)
        for _ in range(100):
            steps = tuple(self.step(chance) for _ in range(chance.randint(0, 6)))
            self.both(steps, proof_text(steps), read_proof, proof_text)

    def step(self, chance):
        def number():
            return chance.choice((0, 1, 9, 10, 100, 12345, 10 ** chance.randint(0, 599), GREATEST))

        def some(make):
            return tuple(make() for _ in range(chance.randint(0, 3)))

        word = chance.choice(("demand", "given", "cap", "divide", "add", "raise"))
        if word == "add":
            return (word, some(lambda: (number(), number())))
        if word == "raise":
            return (word, number(), some(lambda: (number(), some(number))))
        return (word, number(), number()) if word == "divide" else (word, number())


class Misread(Case):
    def bad(self, line, word, text, read=read_proof, *ahead):
        self.refused(BadText, {"line": line, "word": word}, read, *ahead, text)

    def test_example(self):
        self.bad(0, 9, "proof ( add ( times 0 2 ) cap )")

    def test_no_string(self):
        for text in (None, True, 0, b"proof ( )", ["proof", "(", ")"], (), ("proof",), 1.0, object()):
            self.bad(0, 0, text)
            self.bad(0, 0, text, read_book)
            self.bad(0, 0, text, read_plan, EMPTY)

    def test_the_book_is_checked_ahead_of_the_text(self):
        self.refused(BadBook, {"place": ()}, read_plan, None, None)
        self.refused(BadBook, {"place": (0,)}, read_plan, changed(EMPTY, (0,), ()), "no plan")

    def test_too_early(self):
        self.bad(0, 0, "")
        self.bad(0, 0, "   ")
        self.bad(1, 0, "\n")
        self.bad(2, 0, " \n \n   ")
        self.bad(0, 1, "proof")
        self.bad(0, 1, "  proof  ")
        self.bad(0, 2, "proof (")
        self.bad(1, 0, "proof (\n")
        self.bad(1, 0, "proof (\n  ")
        self.bad(1, 1, "proof (\ncap")
        self.bad(1, 2, "proof (\ncap 0")
        self.bad(3, 0, "proof (\ncap 0\n\n")
        self.bad(1, 2, "book (\n  4   )  ", read_book)
        self.bad(0, 2, "plan (", read_plan, EMPTY)

    def test_behind_the_end(self):
        self.bad(0, 3, "proof ( ) )")
        self.bad(1, 0, "proof ( )\nproof ( )")
        self.bad(2, 1, "proof\n(\n) x")
        self.bad(8, 0, EMPTY_TEXT + "\n0", read_book)
        self.bad(0, 3, "plan ( ) 0", read_plan, EMPTY)
        # behind the end also what the reader of books would refuse
        self.bad(0, 13, "book ( ) ( ) ( ) ( ) ( ) ( ) 0", read_book)

    def test_blanks_behind_the_end(self):
        self.assertEqual(read_proof("  proof ( ) \n \n"), ())

    def test_other_blanks_belong_to_words(self):
        for blank in ("\t", "\r", "\f", "\v", "\x1c", "\x85", "\xa0", "\u2028", "\u3000"):
            self.bad(0, 0, f"proof{blank}( )")
            self.bad(0, 1, f"proof ({blank} )")
            self.bad(0, 3, f"proof ( ) {blank}")
            self.bad(0, 2, f"proof ( ){blank}")
            self.bad(0, 3, f"proof ( cap 0{blank} )")
            self.bad(0, 3, f"proof ( cap {blank}0 )")
            self.bad(1, 0, f"proof (\n{blank})")
        self.bad(0, 1, "proof (\r\n)")
        self.bad(0, 2, "proof ( cap\t0 )")

    def test_words_stand_by_themselves(self):
        self.bad(0, 1, "proof () ")
        self.bad(0, 0, "proof( )")
        self.bad(0, 2, "proof ( cap0 )")
        self.bad(0, 3, "proof ( cap 0)")
        self.bad(0, 2, "proof ( Cap 0 )")
        self.bad(0, 3, "proof ( add (times 0 1 ) )")

    def test_numbers(self):
        for word in (
            "00", "01", "007", "-1", "+1", "1.0", "1e3", "1_000", "0x1", "one", "", "none", "any", "must",
            "\u0661", "\u00b2", "\uff11", "1\u0661", "0 0", "-0",
        ):
            text = f"proof ( cap {word} )"
            wrong = 4 if word == "0 0" else 3
            self.bad(0, wrong, text)
        for code in range(33, 127):
            if chr(code) not in "0123456789":
                self.bad(0, 3, f"proof ( cap 1{chr(code)} )")
                self.bad(0, 3, f"proof ( cap {chr(code)}1 )")
        for word in ("0", "1", "9", "10", "1234567890", "9" * 600, "1" + "0" * 599):
            self.assertEqual(read_proof(f"proof ( cap {word} )"), (("cap", int(word)),))
        for word in ("1" + "0" * 600, "9" * 601, "1" * 10000, "0" * 600, "0" + "1" * 600):
            self.bad(0, 3, f"proof ( cap {word} )")

    def test_each_number_of_steps(self):
        for text, word in (
            ("demand x", 3), ("given x", 3), ("add ( times x 0 )", 5), ("add ( times 0 x )", 6), ("divide x 0", 3),
            ("divide 0 x", 4), ("raise x ( )", 3), ("raise 0 ( weights x ( ) )", 6),
            ("raise 0 ( weights 0 ( x ) )", 8), ("raise 0 ( weights 0 ( 1 2 x ) )", 10),
        ):
            self.bad(0, word, f"proof ( {text} )")
            self.bad(0, word, f"proof ( {text.replace('x', '00')} )")
            self.assertEqual(len(read_proof(f"proof ( {text.replace('x', '0')} )")), 1)

    def test_wrong_words_of_proofs(self):
        for text, word in (
            ("prove ( )", 0), ("proof )", 1), ("proof { }", 1), ("proof ( times 0 1 )", 2), ("proof ( cap )", 3),
            ("proof ( cap 0 0 )", 4), ("proof ( add )", 3), ("proof ( add 0 )", 3), ("proof ( add ( 0 1 ) )", 4),
            ("proof ( add ( times 0 ) )", 6), ("proof ( divide 0 )", 4), ("proof ( raise 0 )", 4),
            ("proof ( raise 0 ( times 0 1 ) )", 5), ("proof ( raise 0 ( weights 0 { } ) )", 7),
            ("proof ( ( ) )", 2), ("proof ( 0 )", 2), ("plan ( )", 0), ("book", 0),
        ):
            self.bad(0, word, text)

    def test_each_word_left_out_or_exchanged(self):
        """In a text with each word in a line of its own, the wrong word is where it is put."""
        for text, read, ahead in (
            (RICH_TEXT, read_book, ()), (STEPS_TEXT, read_proof, ()), (PLAN_TEXT, read_plan, (MEETABLE,)),
        ):
            words = text.split()
            for at in range(len(words)):
                for wrong in ("?", "]", "at\t", "0\r", "01", "-1"):
                    self.bad(at, 0, "\n".join(words[:at] + [wrong] + words[at + 1:]), read, *ahead)
                self.bad(0, at, " ".join(words[:at]), read, *ahead)
                self.bad(0, at, " ".join(words[:at] + ["?"]), read, *ahead)
            self.bad(len(words), 0, "\n".join(words + [")"]), read, *ahead)

    def test_places_in_lines(self):
        for text, read, ahead in (
            (RICH_TEXT, read_book, ()), (STEPS_TEXT, read_proof, ()), (PLAN_TEXT, read_plan, (MEETABLE,)),
        ):
            lines = text.split("\n")
            for line, number, _ in words_of(text):
                words = lines[line].split()
                broken = lines[:line] + ["  ".join(words[:number] + ["?"] + words[number + 1:])] + lines[line + 1:]
                self.bad(line, number, "\n".join(broken), read, *ahead)

    def test_wrong_words_of_books(self):
        head = "book ( 4 ) ( ) ( ) ( ) ( ) ("
        for text, word in (
            ("book ( 4 ) ( 4 )", 5), ("book ( 4 ) ( room { } )", 6), ("book ( 4 ) ( room 4 any )", 7),
            ("book ( 4 ) ( room 4 { any } )", 8), ("book ( 4 ) ( ) ( { } )", 7), ("book ( 4 ) ( ) ( may any )", 8),
            ("book ( 4 ) ( ) ( ) ( may { } )", 9), ("book ( 4 ) ( ) ( ) ( ) ( task any )", 12),
            ("book ( 4 ) ( ) ( ) ( ) ( task 1 none )", 13), ("book ( 4 ) ( ) ( ) ( ) ( task 1 any any )", 14),
            ("book ( 4 ) ( ) ( ) ( ) ( task 1 { } { } { } any", 19),
            ("book ( 4 ) ( ) ( ) ( ) ( task 1 any { } { } none { }", 19),
            ("book ( 4 ) ( ) ( ) ( ) ( task 1 any { } { } none ( 0 1 )", 20),
            ("book ( 4 ) ( ) ( ) ( ) ( task 1 any { } { } none ( price 0 none", 22),
            (head + " least", 13), (head + " rule any", 14), (head + " rule at any any any", 14),
            (head + " rule least any", 15), (head + " rule least { } any", 17), (head + " rule least { } at none", 18),
            (head + " rule least { } at any any any must", 21), (head + " rule least { } at any any any 1 any", 22),
            (head + " rule load { } at any any any 1 must", 22), (head + " rule before 0 1 must", 17),
            (head + " rule alike 0 1 hour", 17), (head + " rule alike 0 1 group", 17), (head + " rule alike 0 1 0", 17),
            (head + " rule unlike 0 day", 16), (head + " rule close 0", 15), (head + " rule close room 0", 15),
            (head + " rule close person { }", 16), (head + " rule close group 0 0", 17),
            (head + " rule close group 0 { } none", 19), (head + " rule close group 0 { } must must", 20),
        ):
            self.bad(0, word, text, read_book)
            self.bad(word, 0, text.replace(" ", "\n"), read_book)

    def test_wrong_words_of_plans(self):
        for text, word in (
            ("plan ( 0 0 0 )", 2), ("plan ( spot none none none )", 3), ("plan ( spot 0 any none )", 4),
            ("plan ( spot 0 none any )", 5), ("plan ( spot 0 none )", 5), ("plan ( spot 0 none none 0 )", 6),
            ("proof ( )", 0), ("spot 0 none none", 0),
        ):
            self.bad(0, word, text, read_plan, EMPTY)

    def test_behind_all_words_the_errors_of_books(self):
        for text, place in (
            (EMPTY_TEXT.replace("4", "13"), (0,)), (EMPTY_TEXT.replace("4", ""), (0,)),
            (EMPTY_TEXT.replace("4", "9" * 600), (0,)), (RICH_TEXT.replace("{ 1 2 4 }", "{ 2 1 4 }"), (2, 1)),
            (RICH_TEXT.replace("room 20 { }", "room 20 { 8 }"), (1, 1)),
            (RICH_TEXT.replace("before 0 2 1", "before 0 0 1"), (5, 3, 0, 2)),
            (RICH_TEXT.replace("rule alike 1 0 room 1", "rule alike 1 0 room 0"), (5, 4, 1)),
        ):
            self.refused(BadBook, {"place": place}, read_book, text)
        great = "book ( 12 12 12 ) ( room 0 { } ) ( ) ( ) ( task 1 any { } { } { } ( ) ) ( )"
        great = great.replace("room 0 { }", "room 0 { } " * 6)
        self.refused(TooGreat, {"most": 200}, read_book, great)

    def test_behind_all_words_the_errors_of_plans(self):
        self.refused(BadPlan, {"place": ()}, read_plan, EXAMPLE, "plan ( )")
        self.refused(BadPlan, {"place": (0,)}, read_plan, EXAMPLE, "plan ( spot 2 0 0 )")
        self.refused(BadPlan, {"place": (0,)}, read_plan, EXAMPLE, "plan ( spot 0 0 none )")
        self.refused(BadPlan, {"place": (0,)}, read_plan, EXAMPLE, f"plan ( spot {GREATEST} 0 0 )")
        self.assertEqual(read_plan(EXAMPLE, "plan ( spot 1 0 0 )"), ((1, 0, 0),))

    def test_great_texts(self):
        steps = tuple(("add", ((number, 1),) * 3) for number in range(3000))
        self.assertEqual(read_proof(proof_text(steps)), steps)


if __name__ == "__main__":
    unittest.main()
