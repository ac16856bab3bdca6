"""The best plan of a question, with its paper."""

from besthours.book import need_plan, plan_row
from besthours.choices import choice_sizes, need_question, priced_rules
from besthours.demands import all_demands, choice_prices, given_sums
from besthours.engine import engine_of
from besthours.errors import NoRow, Unlike
from besthours.holding import is_let
from besthours.lowering import lowered
from besthours.meaning import moves_of, price_of, unkept
from besthours.spots import all_spots
from besthours.store import full_masks


def by_price(prices):
    """The values of a choice by their prices."""
    return tuple(sorted(range(len(prices)), key=lambda value: prices[value]))


def old_values(question):
    """For each task the number of its spot in OLD, None if it has none of its spots there."""
    book, old, _ = question
    if old is None:
        return [None for _ in book[4]]
    return [spots.index(item) if item in spots else None for spots, item in zip(all_spots(book), old)]


class Quest:
    """The way to the best row of a question: rows found, and what is given by then.

    Whatever is found is told at once by its plan: the choice of a rule is 1 exactly if the plan breaks it.
    """

    def __init__(self, question):
        self.question = question
        self.spots = all_spots(question[0])
        self.olds = old_values(question)
        self.prices = choice_prices(question[0])
        sizes = choice_sizes(question[0])
        told = all_demands(question)
        self.engine = engine_of(sizes, [(number, one, 0) for number, (_, one) in enumerate(told)])
        self.engine.orders = [by_price(prices) for prices in self.prices]
        for task, old in enumerate(self.olds):
            self.engine.hopes[task] = 0 if old is None else 1 << old
        self.sets = full_masks(sizes)
        # the givens that hold, each with its tag, and the first tag that none had yet
        self.held = {}
        self.tag = 1
        self.row = ()
        self.refuted = 0

    def hold(self, given):
        """Let these givens hold, and no others."""
        held = {one: self.held[one] for one in given if one in self.held}
        store = self.engine.store
        store.keep_tagged(sum(list(held.values())))
        for one in given:
            if one not in held:
                held[one] = self.tag
                store.add_sum(given_sums(self.question, (one,))[0], ("given", one), self.tag)
                self.tag = 2 * self.tag
        self.held = held

    def held_tags(self):
        """The tags of what holds."""
        return sum(list(self.held.values()))

    def finds(self):
        """Whether there is a row; it is kept, or else the number of the step that refutes it."""
        found = self.engine.run(self.sets, self.held_tags(), None)
        if found[0] == "proof":
            self.refuted = found[1]
            return False
        self.row = self.honest(found[1])
        return True

    def honest(self, row):
        """The row of the plan of a row."""
        book = self.question[0]
        wrong = unkept(book, self.plan(row))
        return row[:len(self.spots)] + tuple([1 if number in wrong else 0 for number in priced_rules(book)])

    def plan(self, row):
        """The plan of a row."""
        return tuple([spots[value] for spots, value in zip(self.spots, row)])

    def moves(self):
        """How many tasks the row moves."""
        return len([old for old, value in zip(self.olds, self.row) if old is not None and old != value])

    def price(self):
        """The price of the row."""
        return sum([prices[value] for prices, value in zip(self.prices, self.row)])

    def refutation(self, given):
        """The proof that refutes what was asked last."""
        return self.engine.store.proof([self.refuted], given)[0]

    def hope(self):
        """Hope for the values of the row."""
        self.engine.hopes = [1 << value for value in self.row]

    def fewest(self):
        """Go down to the fewest moves: the proof that there are no fewer."""
        while self.moves() > 0:
            given = (("moves", self.moves() - 1),)
            self.hold(given)
            if not self.finds():
                return self.refutation(given)
        return ()

    def cheapest(self):
        """Go down to the least price with as many moves: the proof that there is none less."""
        moves = self.moves()
        while self.price() > 0:
            self.hope()
            given = (("moves", moves), ("price", self.price() - 1))
            self.hold(given)
            if not self.finds():
                return self.refutation(given)
        return ()

    def least(self):
        """Go down to the least row with as many moves and the price: (BARRED, BARS)."""
        given = (("moves", self.moves()), ("price", self.price()))
        self.hold(given)
        self.row, bars = lowered(self.engine, self.sets, self.held_tags(), self.row, len(self.spots))
        steps, numbers = self.engine.store.proof([step for _, step in bars], given)
        return (steps, tuple([(choice, numbers[step]) for choice, step in bars]))


def best(question):
    """("plan", PLAN, MOVES, PRICE, PAPER) of the best plan, or ("none", STEPS)."""
    need_question(question)
    quest = Quest(question)
    if not quest.finds():
        return ("none", quest.refutation(()))
    fewer = quest.fewest()
    cheaper = quest.cheapest()
    moves, price = quest.moves(), quest.price()
    barred, bars = quest.least()
    return ("plan", quest.plan(quest.row), moves, price, (fewer, cheaper, barred, bars))


def best_plan(question):
    """The best plan of a question."""
    found = best(question)
    if found[0] == "none":
        raise NoRow()
    return found[1]


def rank(question, plan):
    """What is less for the better one of two plans."""
    book, old, _ = question
    return (len(moves_of(book, old, plan)), price_of(book, plan), plan_row(book, plan))


def is_better(question, one, other):
    """Whether of two plans that keep the book and FIXED the first one is better than the other one."""
    need_question(question)
    need_plan(question[0], one)
    need_plan(question[0], other)
    for plan in (one, other):
        if not is_let(question, plan):
            raise Unlike(plan)
    return rank(question, one) < rank(question, other)
