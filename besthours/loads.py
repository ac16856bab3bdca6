"""The least and the greatest load that tasks have in an AT, of all plans that a question lets."""

from besthours.checking import is_refutation
from besthours.checks import is_integer, is_row
from besthours.choices import choice_sizes, need_question
from besthours.demands import all_demands
from besthours.engine import engine_of
from besthours.errors import BadRule, NoRow, TooGreat
from besthours.holding import is_let_plan, need_tasks_at
from besthours.keeping import load_of
from besthours.rule_sums import rule_sums
from besthours.rules import MOST_LOAD, rule_fault
from besthours.spots import all_spots
from besthours.store import full_masks

MOST_RULES = 40


def ruled(question, what):
    """The question whose book has the rule (WHAT, None) behind all others."""
    book, old, fixed = need_question(question)
    place = rule_fault(book, (what, None))
    if place is not None:
        raise BadRule(place)
    if len(book[5]) == MOST_RULES:
        raise TooGreat(MOST_RULES)
    return need_question((book[:5] + (book[5] + ((what, None),),), old, fixed))


def need_loads(question, tasks, at):
    """Refuse what is no question, tasks or AT, and a question that can't have a rule more."""
    need_tasks_at(question, tasks, at)
    ruled(question, ("load", tasks, at, 0, 0))


def end_of(question, tasks, least):
    """The load than which there is no lesser one, or else no greater one, whatever the plan."""
    return 0 if least else sum([question[0][4][number][0] for number in tasks])


def further(tasks, at, load, least):
    """The WHAT that asks for a lesser load, or else for a greater one."""
    return ("load", tasks, at, 0, load - 1) if least else ("load", tasks, at, load + 1, MOST_LOAD)


class Loads:
    """The search for plans of a question with one load after another."""

    def __init__(self, question):
        self.book = question[0]
        self.spots = all_spots(self.book)
        self.sets = full_masks(choice_sizes(self.book))
        told = all_demands(question)
        # the rule that is asked comes behind all others and ahead of what is fixed, and has one sum
        self.place = len([part for part, _ in told if part[0] != "fixed"])
        self.engine = engine_of(choice_sizes(self.book), [
            (number if number < self.place else number + 1, one, 0) for number, (_, one) in enumerate(told)
        ])
        self.step = 0

    def plan(self, tags):
        """A plan with what has these tags; None, if there is none, and the step that refutes it is kept."""
        found = self.engine.run(self.sets, tags, None)
        if found[0] == "proof":
            self.step = found[1]
            return None
        self.engine.hopes = [1 << value for value in found[1]]
        return tuple([spots[value] for spots, value in zip(self.spots, found[1])])

    def plan_with(self, what):
        """A plan that keeps the rule WHAT, which not all plans keep, in the place of what was asked before."""
        self.engine.store.keep_tagged(0)
        for one in rule_sums(self.book, self.spots, what):
            if one[1] > 0:
                self.engine.store.add_sum(one, ("demand", self.place), 1)
        return self.plan(1)

    def proof(self):
        """The proof that refutes what was asked last."""
        return self.engine.store.proof([self.step], ())[0]


def last_load(question, tasks, at, least):
    """(LOAD, PLAN, STEPS) of the least load, or else of the greatest one."""
    need_loads(question, tasks, at)
    loads = Loads(question)
    plan = loads.plan(0)
    if plan is None:
        raise NoRow()
    end = end_of(question, tasks, least)
    load = load_of(question[0], ("load", tasks, at), plan)
    while load != end:
        other = loads.plan_with(further(tasks, at, load, least))
        if other is None:
            return (load, plan, loads.proof())
        plan = other
        load = load_of(question[0], ("load", tasks, at), plan)
    return (load, plan, ())


def is_last_load(question, tasks, at, value, least):
    """Whether a value is such a triple of the least load, or else of the greatest one."""
    need_loads(question, tasks, at)
    if not is_row(value, 3) or not is_integer(value[0]) or not is_let_plan(question, value[1]):
        return False
    load, plan, steps = value
    if load != load_of(question[0], ("load", tasks, at), plan):
        return False
    if load == end_of(question, tasks, least):
        return isinstance(steps, tuple) and len(steps) == 0
    return is_refutation(ruled(question, further(tasks, at, load, least)), (), steps)


def least_load(question, tasks, at):
    """(LOAD, PLAN, STEPS) of the least load of all plans."""
    return last_load(question, tasks, at, True)


def greatest_load(question, tasks, at):
    """(LOAD, PLAN, STEPS) of the greatest load of all plans."""
    return last_load(question, tasks, at, False)


def is_least_load(question, tasks, at, value):
    """Whether a value is such a triple of the least load."""
    return is_last_load(question, tasks, at, value, True)


def is_greatest_load(question, tasks, at, value):
    """Whether a value is such a triple of the greatest load."""
    return is_last_load(question, tasks, at, value, False)
