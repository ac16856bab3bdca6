"""What all plans have in common: spots that a task can have and spots that it can't, and what is surely so."""

from besthours.checks import is_row, is_set
from besthours.choices import choice_sizes, need_question
from besthours.clashes import together
from besthours.demands import all_demands, fixed_demand, parts
from besthours.engine import engine_of
from besthours.holding import held_question, is_let_plan, need_task, need_tasks_at
from besthours.keeping import spot_in_at
from besthours.spots import all_spots, task_spots
from besthours.steps import add_sums, flat_terms
from besthours.store import full_masks
from besthours.walking import refuted_by


class Held:
    """A question with one of its tasks held to one spot after another."""

    def __init__(self, question, task):
        self.task = task
        self.spots = all_spots(question[0])
        self.sizes = choice_sizes(question[0])
        # the demands if the task is let nowhere, and the number of the one that says so
        told = all_demands(held_question(question, task, ()))
        self.sums = tuple([one for _, one in told])
        self.place = [part for part, _ in told].index(("fixed", task))
        numbers = tuple(range(len(self.spots[task])))
        self.let = dict(question[2]).get(task, numbers)

    def demand(self, number):
        """The sum that the task is at the spot with a number; ((), 1) if it isn't let there."""
        return fixed_demand(self.spots, self.task, (number,) if number in self.let else ())[1]

    def asked(self, number):
        """The sums of the demands if the task is held to the spot with a number."""
        one = self.demand(number)
        # a task that has no other spot needs no demand to be there
        own = (one,) if one[1] > 0 else ()
        return self.sums[:self.place] + own + self.sums[self.place + 1:]

    def new_engine(self):
        """A search over all that is asked but where the task is, for the spots where it is let."""
        asked = self.asked(self.let[0])
        own = self.place if len(asked) == len(self.sums) else None
        return engine_of(self.sizes, [(number, one, 0) for number, one in enumerate(asked) if number != own])

    def plan(self, row):
        """The plan of a row."""
        return tuple([spots[value] for spots, value in zip(self.spots, row)])

    def closed(self, steps, one, number):
        """A proof that refutes the task at a spot, led on from one whose last sum the spot breaks.

        This sum names no choice but the task. The demand of the spot, added, makes it the greatest weight there.
        """
        most = max([max(weights) for _, weights in one[0]], default=0)
        times = most - weight_at(one, number)
        if times > 0:
            last = len(steps) - 1
            steps = steps + (("demand", self.place), ("add", ((last, 1), (last + 1, times))))
            one = add_sums(((one, 1), (self.demand(number), times)))
        flat = flat_terms(one)
        return steps if flat == () else steps + (("raise", len(steps) - 1, flat),)


def weight_at(one, number):
    """The weight of a spot in a sum that names no choice but the task."""
    return sum([weights[number] for _, weights in one[0]])


def ask_all(held):
    """(PLANS, PROOFS): by the numbers of the spots where a task is let a plan with it there, or a proof."""
    plans, proofs = {}, {}
    if held.let == ():
        return (plans, proofs)
    engine = held.new_engine()
    sets = full_masks(held.sizes)
    for number in held.let:
        if number not in proofs:
            sets[held.task] = 1 << number
            found = engine.run(sets, 0, None)
            if found[0] == "row":
                plans[number] = held.plan(found[1])
                engine.hopes = [1 << value for value in found[1]]
            else:
                steps = engine.store.proof([found[1]], ())[0]
                # other spots may break the same sum
                for other in held.let:
                    if other not in proofs and weight_at(found[3], other) < found[3][1]:
                        proofs[other] = held.closed(steps, found[3], other)
    return (plans, proofs)


def possible(question, task):
    """(SPOTS, PLANS, PROOFS): the spots that a task has in some plan, such plans, and proofs for its other spots."""
    held = Held(need_question(question), need_task(question, task))
    plans, proofs = ask_all(held)
    for number in range(len(held.spots[task])):
        if number not in held.let:
            proofs[number] = (("demand", held.place),)
    told = sorted(plans)
    return (tuple(told), tuple([plans[one] for one in told]), tuple([proofs[one] for one in sorted(proofs)]))


def is_possible(question, task, value):
    """Whether a value is such a triple."""
    held = Held(need_question(question), need_task(question, task))
    spots = held.spots[task]
    if not is_row(value, 3) or not is_set(value[0], len(spots) - 1):
        return False
    numbers, plans, proofs = value
    others = [number for number in range(len(spots)) if number not in numbers]
    if not is_row(plans, len(numbers)) or not is_row(proofs, len(others)):
        return False
    for number, plan in zip(numbers, plans):
        if not is_let_plan(question, plan) or plan[task] != spots[number]:
            return False
    return all(refuted_by(held.sizes, (held.asked(one), ()), steps) for one, steps in zip(others, proofs))


def out_of(question, tasks, at):
    """The question in which each of the tasks is held to its spots that are not in AT."""
    need_tasks_at(question, tasks, at)
    book = question[0]
    for number in tasks:
        task = book[4][number]
        spots = task_spots(book, number)
        out = tuple([one for one, spot in enumerate(spots) if not spot_in_at(task, spot, at)])
        question = held_question(question, number, out)
    return question


def sure(question, tasks, at):
    """("sure", STEPS) if in every plan one of the tasks is in AT, or ("not", PLAN)."""
    out = out_of(question, tasks, at)
    word, found = together(out, parts(out))
    if word == "proof":
        return ("sure", found)
    return ("not", tuple([spots[value] for spots, value in zip(all_spots(out[0]), found)]))


def is_sure(question, tasks, at, value):
    """Whether a value is such an answer."""
    out = out_of(question, tasks, at)
    if not is_row(value, 2) or not isinstance(value[0], str):
        return False
    word, found = value
    if word == "sure":
        asked = tuple([one for _, one in all_demands(out)])
        return refuted_by(choice_sizes(out[0]), (asked, ()), found)
    return word == "not" and is_let_plan(out, found)
