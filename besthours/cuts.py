"""Broken sums, led on while what was taken out of the sets is laid back.

A value is taken out of the set of a choice because a sum would be broken with it: the reason. The reason is first
made so that, at this choice, all values that can't be have the weight 0 and all others of the set 1, and that its
tops are just its bound. So many times of it as the broken sum has more at the values laid back than at the others,
added to the broken sum, leave it broken: with the others it gains as much as the bound, with those laid back less.
"""

from besthours.steps import add_sums, cap_sum, clause_of, divide_sum, is_over, raise_sum, raise_to_tops
from besthours.store import top_of

# a sum with a greater bound becomes a clause, so that weights stay small
GREATEST_BOUND = 10 ** 20


def rest_raised(one, rows, choice, sets, by):
    """TERMS by which the tops of all choices but one become multiples of `by` in the form, as little as can be."""
    found = []
    for (named, weights), (_, levels) in zip(one[0], rows):
        if named != choice:
            part = top_of(levels, sets[named]) % by
            if part > 0:
                found.append((named, tuple([max(weight, part) for weight in weights])))
    return found


class Cut:
    """A sum that is broken by sets, with the steps that lead to it.

    `sets` are MASKS, of which whoever lays back values makes greater ones. What is added to the sum is gathered in
    pairs (STEP, TIMES), and becomes a step only where something else is done with the sum.
    """

    def __init__(self, store, bits, sets, number):
        self.store = store
        self.bits = bits
        self.sets = sets
        self.one = store.sums[number]
        self.pairs = [(store.step_of(number), 1)]
        self.tags = store.tags[number]
        self.weights = {}
        self.tops = {}
        # what the tops come to, less the bound: below 0, for the sum is broken
        self.slack = 0
        self.weigh()
        store.uses[number] += 1

    def top_at(self, weights, mask):
        """The greatest of some weights that a value of a MASK has."""
        return max([weights[value] for value in self.bits.of(mask)])

    def weigh(self):
        """Find the tops of the sum anew."""
        terms, bound = self.one
        self.weights = dict(terms)
        self.tops = {choice: self.top_at(weights, self.sets[choice]) for choice, weights in terms}
        self.slack = sum(list(self.tops.values())) - bound

    def lay_back(self, choice, mask):
        """Make the set of a choice greater; tells whether the sum is broken still."""
        self.sets[choice] = mask
        if choice in self.tops:
            top = self.top_at(self.weights[choice], mask)
            self.slack += top - self.tops[choice]
            self.tops[choice] = top
        return self.slack < 0

    def tell(self):
        """The number of the step of the sum as it is now."""
        if len(self.pairs) > 1:
            self.pairs = [(self.store.add_step(("add", tuple(self.pairs))), 1)]
        return self.pairs[0][0]

    def take_step(self, one, step):
        """Go over to the sum of a new step from this one."""
        self.one = one
        self.pairs = [(self.store.add_step(step), 1)]

    def reason(self, number, choice):
        """(SUM, STEP): the reason for which values were taken out at a choice, as it is to be added.

        The sets are those of then, but for the values themselves, so the tops elsewhere are those of then, too.
        """
        one, step = self.store.sums[number], self.store.step_of(number)
        rows = self.store.rows[number]
        missing = one[1] - sum([top_of(levels, self.sets[named]) for named, levels in rows if named != choice])
        own = dict(one[0])[choice]
        here = [own[value] for value in self.bits.of(self.sets[choice])]
        low = max([weight for weight in here if weight < missing])
        by = max(here) - low
        raises = rest_raised(one, rows, choice, self.sets, by)
        if low > 0:
            raises.append((choice, tuple([max(weight, low) for weight in own])))
        if raises != []:
            terms = tuple(sorted(raises))
            one = raise_sum(one, terms)
            step = self.store.add_step(("raise", step, terms))
        if by > 1:
            one = divide_sum(one, by)
            step = self.store.add_step(("divide", step, by))
        return (one, step)

    def absorb(self, number, choice):
        """Add the reason for which values were taken out at a choice, that are laid back there by now."""
        one, step = self.reason(number, choice)
        weights, more = self.weights[choice], dict(one[0])[choice]
        here = self.bits.of(self.sets[choice])
        times = self.tops[choice] - max([weights[value] for value in here if more[value] > 0])
        self.store.uses[number] += 1
        self.tags = self.tags | self.store.tags[number]
        self.one = add_sums(((self.one, 1), (one, times)))
        self.pairs.append((step, times))
        if is_over(self.one):
            self.take_step(cap_sum(self.one), ("cap", self.tell()))
        if self.one[1] > GREATEST_BOUND:
            self.become_clause()
        self.weigh()

    def become_clause(self):
        """Go over to the clause of the sum."""
        sets = [self.bits.of(mask) for mask in self.sets]
        one, steps = clause_of(self.one, sets, self.tell(), len(self.store.steps))
        for step in steps:
            self.take_step(one, step)

    def flatten(self):
        """Raise all weights at least to the tops, so that no value of the sets has a weight."""
        raises = raise_to_tops(self.one, [self.bits.of(mask) for mask in self.sets])
        if raises != ():
            self.take_step(raise_sum(self.one, raises), ("raise", self.tell(), raises))
            self.weigh()

    def forbids(self, sets):
        """Whether other sets break the sum, or have values that can't be because of it."""
        terms, bound = self.one
        tops = [self.top_at(weights, sets[choice]) for choice, weights in terms]
        slack = sum(tops) - bound
        if slack < 0:
            return True
        for (choice, weights), top in zip(terms, tops):
            if top > slack and min([weights[value] for value in self.bits.of(sets[choice])]) < top - slack:
                return True
        return False
