"""The search for rows that keep sums: sets of values are narrowed, decided, and laid back where a sum is broken."""

from besthours.cliques import clique_sums
from besthours.cuts import Cut
from besthours.mixing import mixed
from besthours.steps import add_sums
from besthours.store import Bits, Store, heavy_of, is_open, least_bit, top_of
from besthours.triangles import triangle_sums

# how many sums are broken up to the first fresh start, and by which part there are more up to the next one
FIRST_START = 30
START_PART = 4
# how many sums are broken up to the first time that multiples are looked for, and how many times as many up to the
# next time; how many turns are taken for each of them, how many weights are looked at, and how many terms there may be
FIRST_MIX = 30
MIX_TIMES = 2
MIX_TURNS = 2
MIX_WORK = 200000
MOST_TERMS = 100000
# how many times on end triangles are taken up for a mix, and up to how many of them
MIX_ROUNDS = 4
MOST_TRIANGLES = 400
# how many sums are learnt before half of them is forgotten, and how many more the next time
FIRST_LEARNT = 400
MORE_LEARNT = 100
# what is broken counts more by this part than what was broken ahead of it
BUMP_PART = 20
SCALE = 10 ** 6
GREATEST_BUMP = 10 ** 40


def slack_of(one, rows, sets):
    """What the tops of a sum come to under sets, less its bound."""
    total = -one[1]
    for choice, levels in rows:
        mask = sets[choice]
        for weight, these in levels:
            if these & mask:
                total += weight
                break
    return total


def many_terms(store, numbers):
    """How many terms the sums with some numbers have together."""
    return sum([len(store.rows[number]) for number in numbers])


class Engine:
    """A search at work: the sets (MASKS), what was taken out of them and why, and a mark for each decision.

    A *level* is what comes from one decision up to the next one; what comes ahead of all of them is the level 0.
    """

    def __init__(self, store):
        self.store = store
        self.bits = Bits()
        self.sets = []
        # (CHOICE, what its set was, the sum because of which it was narrowed or -1 for a decision)
        self.trail = []
        # (how long the trail was, SETS, SLACKS) ahead of each decision
        self.marks = []
        # of each sum what its tops come to, less its bound, and whether it waits to be looked at
        self.slacks = []
        self.waits = []
        self.queue = []
        self.head = 0
        # how often choices were in sums that were broken, what is hoped of them, and their values as they are tried
        self.activity = [1] * len(store.sizes)
        self.bump = 1
        self.hopes = [0] * len(store.sizes)
        self.orders = [tuple(range(many)) for many in store.sizes]
        self.most_learnt = FIRST_LEARNT
        # the tags of what is let; whether cliques have been looked for, how many triangles have been found, and how
        # far the values left have been mixed
        self.tags = 0
        self.joined = False
        self.triangles = 0
        self.mixture = None

    def begin(self, sets, tags):
        """Stand at sets, with all sums that follow from what has these tags alone."""
        store = self.store
        self.sets = list(sets)
        self.tags = tags
        self.trail = []
        self.marks = []
        self.mixture = None
        self.slacks = [
            0 if one is None else slack_of(one, rows, sets) for one, rows in zip(store.sums, store.rows)
        ]
        self.queue = []
        self.head = 0
        # a sum that isn't let waits for ever, so it never comes into the queue
        self.waits = [True] * len(store.sums)
        for number, one in enumerate(store.sums):
            if one is not None and store.tags[number] & ~tags == 0:
                self.waits[number] = False
                if self.slacks[number] < store.spans[number]:
                    self.put(number)

    def put(self, number):
        """Let a sum wait to be looked at."""
        if not self.waits[number]:
            self.waits[number] = True
            self.queue.append(number)

    def look(self):
        """The next sum that waits, None if none does."""
        if self.head == len(self.queue):
            self.queue = []
            self.head = 0
            return None
        number = self.queue[self.head]
        self.head += 1
        self.waits[number] = False
        return number

    def clear_queue(self):
        """Let no sum wait."""
        for number in self.queue[self.head:]:
            self.waits[number] = False
        self.queue = []
        self.head = 0

    def touch(self, groups, before, now):
        """Let all sums of some groups wait whose top has become less, if they may forbid something."""
        slacks, spans, waits = self.slacks, self.store.spans, self.waits
        alone = -1 if is_open(now) else least_bit(now)
        for levels, weights, members in groups:
            if not levels[0][1] & now:
                fall = top_of(levels, before) - (top_of(levels, now) if alone < 0 else weights[alone])
                if fall > 0:
                    for number in members:
                        slack = slacks[number] - fall
                        slacks[number] = slack
                        if slack < spans[number] and not waits[number]:
                            waits[number] = True
                            self.queue.append(number)

    def take(self, choice, now, reason):
        """Narrow the set of a choice."""
        before = self.sets[choice]
        self.trail.append((choice, before, reason))
        self.sets[choice] = now
        self.touch(self.store.sparse[choice][least_bit(now)], before, now)
        self.touch(self.store.dense[choice], before, now)

    def narrow_at(self, number, choice, levels):
        """Take out the values of a choice that can't be because of a sum; tells whether there were any."""
        now = self.sets[choice]
        left = now & heavy_of(levels, top_of(levels, now) - self.slacks[number])
        if left == now:
            return False
        self.take(choice, left, number)
        return True

    def narrow(self, number):
        """Take out all values that can't be because of a sum that isn't broken; tells whether there were any."""
        some = False
        slack = self.slacks[number]
        for choice, levels in self.store.rows[number]:
            # what is taken out has less than the top, so neither tops nor slack of this sum become less
            if levels[0][0] > slack and is_open(self.sets[choice]) and self.narrow_at(number, choice, levels):
                some = True
        return some

    def propagate(self):
        """Narrow as long as there are values that can't be: the number of a broken sum, or None."""
        number = self.look()
        while number is not None:
            if self.slacks[number] < 0:
                self.clear_queue()
                return number
            self.narrow(number)
            number = self.look()
        return None

    def decide(self, choice, value):
        """Decide for a value of a choice."""
        self.marks.append((len(self.trail), list(self.sets), list(self.slacks)))
        self.take(choice, 1 << value, -1)

    def back(self, level):
        """Take back all decisions behind a level."""
        many, self.sets, self.slacks = self.marks[level]
        del self.trail[many:]
        del self.marks[level:]
        self.clear_queue()

    def explain(self, number, early):
        """(CUT, LEVEL): what a broken sum leads to if, the last first, what was taken out is laid back.

        The CUT forbids the decision of LEVEL, or something at the level ahead of it if it is asked for `early`. With
        the LEVEL 0 all is laid back.
        """
        cut = Cut(self.store, self.bits, list(self.sets), number)
        level = len(self.marks)
        for choice, before, reason in reversed(self.trail):
            if not cut.lay_back(choice, before):
                if reason < 0:
                    return (cut, level)
                self.activity[choice] += self.bump
                cut.absorb(reason, choice)
                if early and level > 0 and cut.forbids(self.marks[level - 1][1]):
                    return (cut, level)
            if reason < 0:
                level -= 1
        return (cut, 0)

    def rouse(self, cut):
        """Let the choices that a sum names be decided earlier, and what was roused before count for less."""
        for choice in cut.weights:
            self.activity[choice] += self.bump
        self.bump = self.bump + self.bump // BUMP_PART + 1
        if self.bump > GREATEST_BUMP:
            self.bump = SCALE
            self.activity = [own * SCALE // GREATEST_BUMP + 1 for own in self.activity]

    def take_up(self, one, step, tags):
        """Take up a sum among the others; its number is returned."""
        number = self.store.add_sum(one, step, tags)
        rows = self.store.rows[number]
        for _, sets, slacks in self.marks:
            slacks.append(slack_of(one, rows, sets))
        self.slacks.append(slack_of(one, rows, self.sets))
        # what isn't let waits for ever
        self.waits.append(tags & ~self.tags != 0)
        self.put(number)
        return number

    def learn(self, one, step, tags):
        """Take up a sum that may be forgotten again."""
        self.store.learnt.append(self.take_up(one, step, tags))

    def settle(self, number, early):
        """Learn from a broken sum, all being laid back to a level where the sum that is learnt forbids something.

        None; but if all is laid back (STEP, TAGS, SUM) of a sum that the sets of the beginning break.
        """
        cut, level = self.explain(number, early)
        if level == 0:
            cut.flatten()
            return (cut.tell(), cut.tags, cut.one)
        self.rouse(cut)
        level -= 1
        while early and level > 0 and cut.forbids(self.marks[level - 1][1]):
            level -= 1
        self.back(level)
        self.learn(cut.one, cut.tell(), cut.tags)
        return None

    def lighten(self):
        """Forget that half of what was learnt which was of the least use, but for what the trail needs."""
        store = self.store
        needed = {reason: True for _, _, reason in self.trail}
        learnt = [number for number in store.learnt if number not in needed]
        if len(learnt) < self.most_learnt:
            return
        self.most_learnt += MORE_LEARNT
        learnt = sorted(learnt, key=lambda number: store.uses[number])
        gone = {number: True for number in learnt[:len(learnt) // 2]}
        store.forget({number: True for number in range(len(store.sums)) if number not in gone})
        for number in gone:
            self.waits[number] = True
        store.uses = [many // 2 for many in store.uses]

    def take_cliques(self):
        """Take up, once for all, what cliques say."""
        if not self.joined:
            self.joined = True
            for one, step, tags in clique_sums(self.store):
                self.take_up(one, step, tags)

    def asked(self):
        """The numbers of the sums, but for learnt ones, that follow from what is let, if they aren't too great."""
        store = self.store
        learnt = {number: True for number in store.learnt}
        found = [
            number for number, one in enumerate(store.sums)
            if one is not None and number not in learnt and store.tags[number] & ~self.tags == 0
        ]
        if many_terms(store, found) > MOST_TERMS:
            # clauses of many choices say the least
            found = [number for number in found if store.sums[number][1] > 1 or len(store.rows[number]) < 3]
        return found if many_terms(store, found) <= MOST_TERMS else []

    def mix(self, many):
        """Learn a sum that the sets break, if sums that are let come to one; else hope for what mixes them best.

        It is done ahead of all decisions, when so many sums have been broken.
        """
        self.take_cliques()
        for _ in range(MIX_ROUNDS):
            numbers = self.asked()
            sums = [(number, self.store.sums[number]) for number in numbers]
            left = [self.bits.of(mask) for mask in self.sets]
            times, self.mixture = mixed(left, sums, MIX_TURNS * many, MIX_WORK * many, self.mixture)
            if times != {}:
                self.learn_times(times)
                return
            if not self.take_triangles(numbers):
                break
        for choice, value in self.mixture.greatest().items():
            self.hopes[choice] = 1 << value

    def take_triangles(self, numbers):
        """Take up triangles that the mix doesn't keep; tells whether there are any."""
        if self.triangles > MOST_TRIANGLES:
            return False
        found = triangle_sums(self.store, numbers, self.mixture.told_shares())
        for one, step, tags in found:
            self.take_up(one, step, tags)
        self.triangles += len(found)
        return found != []

    def learn_times(self, times):
        """Learn a sum of others, each of them so many times."""
        store = self.store
        pairs = [(number, many) for number, many in times.items()]
        one = add_sums([(store.sums[number], many) for number, many in pairs])
        step = store.add_step(("add", tuple([(store.step_of(number), many) for number, many in pairs])))
        tags = 0
        for number, _ in pairs:
            tags = tags | store.tags[number]
        self.learn(one, step, tags)

    def pick(self):
        """The choice with more values to be decided next, None if each has one."""
        best, most = None, -1
        for choice, mask in enumerate(self.sets):
            if is_open(mask):
                worth = self.activity[choice] * SCALE // len(self.bits.of(mask))
                if worth > most:
                    best, most = choice, worth
        return best

    def wanted(self, choice):
        """The value of a choice to be tried first."""
        mask = self.sets[choice]
        if mask & self.hopes[choice]:
            return least_bit(mask & self.hopes[choice])
        for value in self.orders[choice]:
            if (mask >> value) & 1:
                return value
        return least_bit(mask)

    def go_on(self, choice, lead):
        """Decide: for the least value of the choice that leads, as long as it has more, else for a choice."""
        if lead is not None and is_open(self.sets[lead]):
            self.decide(lead, least_bit(self.sets[lead]))
        else:
            self.decide(choice, self.wanted(choice))

    def run(self, sets, tags, lead):
        """("row", ROW) with values of sets, or ("proof", STEP, TAGS, SUM) of a sum that they break.

        If a choice leads, it has the least value that it can have in such a row.
        """
        self.begin(sets, tags)
        many, most, mixes = 0, FIRST_START, FIRST_MIX
        begun = 0
        while True:
            number = self.propagate()
            if number is not None:
                found = self.settle(number, True)
                if found is not None:
                    return ("proof",) + found
                many += 1
            elif many >= begun + most and self.marks != []:
                self.back(0)
                self.lighten()
                begun, most = many, most + most // START_PART
                if many >= mixes:
                    self.mix(many)
                    mixes = MIX_TIMES * many
            else:
                choice = self.pick()
                if choice is None:
                    return ("row", tuple([least_bit(mask) for mask in self.sets]))
                self.go_on(choice, lead)


def engine_of(sizes, asked):
    """A search over what is asked: (NUMBER, SUM, TAGS) of demands."""
    store = Store(sizes)
    for number, one, tags in asked:
        store.add_sum(one, ("demand", number), tags)
    return Engine(store)
