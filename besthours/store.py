"""The sums that a search knows, the steps that led to them, and which of them a change of a set may touch.

Values of a choice are bits of an integer here, a MASK. The LEVELS of weights are pairs (WEIGHT, MASK), WEIGHT
descending to 1, MASK having all values of at least this weight.
"""

MOST_MASKS = 20000


def levels_of(weights):
    """The LEVELS of weights."""
    masks = {}
    for value, weight in enumerate(weights):
        if weight > 0:
            masks[weight] = masks.get(weight, 0) | (1 << value)
    levels = []
    whole = 0
    for weight in sorted(masks, reverse=True):
        whole = whole | masks[weight]
        levels.append((weight, whole))
    return tuple(levels)


def top_of(levels, mask):
    """The greatest weight that a value of a MASK has."""
    for weight, these in levels:
        if these & mask:
            return weight
    return 0


def heavy_of(levels, least):
    """The MASK of all values with at least some weight, which one of them has; -1, of all values, if it is none."""
    if least <= 0:
        return -1
    mask = 0
    for weight, these in levels:
        if weight < least:
            break
        mask = these
    return mask


def least_bit(mask):
    """The least value of a MASK."""
    return (mask & -mask).bit_length() - 1


def is_open(mask):
    """Whether a MASK has more values than one."""
    return mask & (mask - 1) != 0


def mask_of(values):
    """The MASK of some unlike values."""
    return sum([1 << value for value in values])


def full_masks(sizes):
    """The MASKS of all values of choices."""
    return [(1 << many) - 1 for many in sizes]


def steps_named(step):
    """The numbers of the steps that a step names."""
    if step[0] == "add":
        return [number for number, _ in step[1]]
    return [] if step[0] == "demand" or step[0] == "given" else [step[1]]


def renumbered(step, numbers, given):
    """A step with new numbers for those that it names, and the number of the given that it names."""
    if step[0] == "add":
        return ("add", tuple([(numbers[number], times) for number, times in step[1]]))
    if step[0] == "demand":
        return step
    if step[0] == "given":
        return ("given", given.index(step[1]))
    return (step[0], numbers[step[1]]) + step[2:]


class Bits:
    """The values that MASKS have, found once for each."""

    def __init__(self):
        self.known = {}

    def of(self, mask):
        """The tuple of the values of a MASK, ascending."""
        if mask not in self.known:
            if len(self.known) >= MOST_MASKS:
                self.known = {}
            self.known[mask] = tuple([value for value in range(mask.bit_length()) if (mask >> value) & 1])
        return self.known[mask]


class Store:
    """Sums by number, each with its step and with TAGS: the bits of what it follows from."""

    def __init__(self, sizes):
        self.sizes = sizes
        # the step of a given sum has the given itself in the place of its number
        self.steps = []
        # of each sum: itself, None if it is forgotten; its rows (CHOICE, LEVELS); its greatest weight; the number
        # of its step, or the step itself if it isn't among the steps yet; its tags; how often it was of use
        self.sums = []
        self.rows = []
        self.spans = []
        self.numbers = []
        self.tags = []
        self.uses = []
        self.learnt = []
        self.known_levels = {}
        self.groups = {}
        self.sparse = []
        self.dense = []
        self.clear_index()

    def clear_index(self):
        """Forget which sums name which choices."""
        self.known_levels = {}
        self.groups = {}
        # of each choice the groups that can be touched only if some value is left, by this value, and the others
        self.sparse = [[[] for _ in range(many)] for many in self.sizes]
        self.dense = [[] for _ in self.sizes]

    def levels(self, weights):
        """The LEVELS of weights, made once for equal ones."""
        if weights not in self.known_levels:
            self.known_levels[weights] = levels_of(weights)
        return self.known_levels[weights]

    def add_group(self, choice, weights):
        """A new group (LEVELS, WEIGHTS, SUMS) of the sums with the same weights at a choice."""
        group = (self.levels(weights), weights, [])
        most = max(weights)
        # the top becomes less only if all values that are left have less than the greatest weight
        low = [value for value, weight in enumerate(weights) if weight < most]
        if 2 * len(low) <= len(weights):
            for value in low:
                self.sparse[choice][value].append(group)
        else:
            self.dense[choice].append(group)
        return group

    def index_sum(self, number):
        """Take a sum up among those that a change may touch."""
        for key in self.sums[number][0]:
            if key not in self.groups:
                self.groups[key] = self.add_group(key[0], key[1])
            self.groups[key][2].append(number)

    def add_sum(self, one, step, tags):
        """Take up a sum, `step` being its step or the number of this; the sum's own number is returned."""
        terms, _ = one
        self.sums.append(one)
        self.rows.append([(choice, self.levels(weights)) for choice, weights in terms])
        self.spans.append(max([max(weights) for _, weights in terms], default=0))
        self.numbers.append(step)
        self.tags.append(tags)
        self.uses.append(0)
        self.index_sum(len(self.sums) - 1)
        return len(self.sums) - 1

    def add_step(self, step):
        """Take up a step; its number is returned."""
        self.steps.append(step)
        return len(self.steps) - 1

    def step_of(self, number):
        """The number of the step of a sum, which is taken up now if it isn't yet."""
        told = self.numbers[number]
        if isinstance(told, tuple):
            told = self.add_step(told)
            self.numbers[number] = told
        return told

    def forget(self, kept):
        """Let go of all sums but those whose numbers are in a dict."""
        self.sums = [one if number in kept else None for number, one in enumerate(self.sums)]
        self.rows = [rows if number in kept else [] for number, rows in enumerate(self.rows)]
        self.clear_index()
        for number, one in enumerate(self.sums):
            if one is not None:
                self.index_sum(number)
        self.learnt = [number for number in self.learnt if number in kept]

    def keep_tagged(self, tags):
        """Let go of all sums that follow from anything but what has these tags."""
        self.forget({number: True for number, own in enumerate(self.tags) if own & ~tags == 0})

    def proof(self, roots, given):
        """(STEPS, NUMBERS): all steps that those with some numbers need, and their new numbers by the old ones."""
        needed = {}
        waiting = list(roots)
        while waiting:
            number = waiting.pop()
            if number not in needed:
                needed[number] = True
                waiting.extend(steps_named(self.steps[number]))
        numbers = {}
        steps = []
        for number in sorted(needed):
            steps.append(renumbered(self.steps[number], numbers, given))
            numbers[number] = len(steps) - 1
        return (tuple(steps), numbers)
