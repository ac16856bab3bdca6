"""Multiples of sums that are broken when they are added, looked for by mixing values.

A *mix* has a share of each value that is left of a choice; the shares of a choice are together one WHOLE. If no mix
keeps all sums, then some multiples of them, added, are broken. Both are led on by turns: the multiples grow where the
mix lacks weight, the mix goes where the multiples have weight, each at a pace that suits the weights it meets. What
is found is reckoned exactly, so it is so; what isn't found may be there all the same.
"""

WHOLE = 2 ** 24
# a multiple of 1 is told by so much, so that great weights can have small ones
FINE = 2 ** 40
# paces are told in such parts
PARTS = 2 ** 20
# a share that is worth the name
LEAST_SHARE = 80000
# after so many turns on end in which no sum lacks weight a mix that keeps all sums is near
KEPT_TURNS = 5


def usual(weights):
    """The weight that stands most often among some."""
    counts = {}
    for weight in weights:
        counts[weight] = counts.get(weight, 0) + 1
    return max(counts, key=lambda one: counts[one])


def brought_back(shares):
    """The shares nearest to some numbers: each of these less the same, but none below 0, together one WHOLE."""
    total = 0
    level = 0
    for many, share in enumerate(sorted(shares, reverse=True), 1):
        total += share
        less = (total - WHOLE) // many
        if share <= less:
            break
        level = less
    return [share - level if share > level else 0 for share in shares]


class Mix:
    """A mix of the values that are left, and multiples of sums."""

    def __init__(self, left):
        # the values left of each choice; its first column, and the columns of all choices with more values than one
        self.left = left
        self.first = {}
        self.spans = []
        self.shares = []
        for choice, those in enumerate(left):
            many = len(those)
            if many > 1:
                at = len(self.shares)
                self.first[choice] = at
                self.spans.append((choice, at, at + many))
                self.shares.extend([WHOLE // many] * many)
        # of each column (SUM, WEIGHT), of each sum (COLUMN, WEIGHT): by how much it has more than the usual weight
        self.columns = [[] for _ in self.shares]
        self.rows = []
        # of each sum its number elsewhere, what is asked beyond the usual weights, its multiple, and the paces
        self.numbers = []
        self.bounds = []
        self.times = []
        self.row_paces = []
        self.span_paces = []
        # for how many turns no sum has lacked weight
        self.kept = 0

    def take(self, number, one):
        """Take up a sum, unless all mixes keep it."""
        terms, bound = one
        row = []
        least = 0
        for choice, weights in terms:
            own = [weights[value] for value in self.left[choice]]
            base = usual(own)
            bound -= base
            low = min(own)
            least += low - base
            if max(own) > low:
                row.extend([
                    (at, weight - base) for at, weight in enumerate(own, self.first[choice]) if weight != base
                ])
        if least < bound:
            for at, weight in row:
                self.columns[at].append((len(self.rows), weight))
            self.rows.append(row)
            self.numbers.append(number)
            self.bounds.append(bound)
            self.times.append(0)

    def find_paces(self):
        """Find how fast multiples and shares may change."""
        tops = [max([abs(weight) for _, weight in row], default=1) for row in self.rows]
        self.row_paces = [
            max(1, top * sum([abs(weight) for _, weight in row])) for row, top in zip(self.rows, tops)
        ]
        columns = [
            sum([abs(weight) * PARTS // tops[at] + 1 for at, weight in column]) for column in self.columns
        ]
        self.span_paces = [max(PARTS, max(columns[first:end])) * (FINE // PARTS) for _, first, end in self.spans]

    def follow(self, ahead):
        """Go on where another mix of the same choices and sums stands."""
        times = dict(list(zip(ahead.numbers, ahead.times)))
        self.times = [times.get(number, 0) for number in self.numbers]
        for choice, first, end in self.spans:
            if choice in ahead.first:
                shares = dict(list(zip(ahead.left[choice], ahead.shares[ahead.first[choice]:])))
                self.shares[first:end] = brought_back([shares.get(value, 0) for value in self.left[choice]])

    def pulls(self, times):
        """What the multiples give to each column."""
        found = [0] * len(self.shares)
        for row, many in zip(self.rows, times):
            if many > 0:
                for at, weight in row:
                    found[at] += many * weight
        return found

    def gain(self, times, pulls):
        """By how much multiples, added, are broken."""
        asked = sum([many * bound for many, bound in zip(times, self.bounds)])
        return asked - sum([max(pulls[first:end]) for _, first, end in self.spans])

    def turn(self):
        """Change the mix, then the multiples; tells whether these were good already."""
        pulls = self.pulls(self.times)
        if self.gain(self.times, pulls) > 0:
            return True
        met = [0] * len(self.rows)
        for (_, first, end), pace in zip(self.spans, self.span_paces):
            old = self.shares[first:end]
            new = brought_back([share + pull // pace for share, pull in zip(old, pulls[first:end])])
            self.shares[first:end] = new
            for column, ahead, share in zip(self.columns[first:end], old, new):
                # the multiples see the mix as far on again as it went
                seen = 2 * share - ahead
                if seen != 0:
                    for at, weight in column:
                        met[at] += seen * weight
        short = [bound * WHOLE - weight for bound, weight in zip(self.bounds, met)]
        self.times = [
            max(0, many + less * FINE // pace) for many, less, pace in zip(self.times, short, self.row_paces)
        ]
        self.kept = self.kept + 1 if max(short, default=0) <= 0 else 0
        return False

    def told(self):
        """The multiples by the numbers of the sums, with as few figures as will do."""
        cut = max(self.times).bit_length()
        times = []
        while times == [] or self.gain(times, self.pulls(times)) <= 0:
            cut -= 1
            times = [many >> cut for many in self.times]
        return {number: many for number, many in zip(self.numbers, times) if many > 0}

    def greatest(self):
        """The values that have at least half of their choice's shares, by the choices."""
        found = {}
        for choice, first, end in self.spans:
            own = self.shares[first:end]
            most = max(own)
            if 2 * most >= WHOLE:
                found[choice] = self.left[choice][own.index(most)]
        return found


    def told_shares(self):
        """(CHOICE, VALUE, SHARE) of all values with a share worth the name."""
        found = [(choice, those[0], WHOLE) for choice, those in enumerate(self.left) if len(those) == 1]
        for choice, first, end in self.spans:
            for value, share in zip(self.left[choice], self.shares[first:end]):
                if share > LEAST_SHARE:
                    found.append((choice, value, share))
        return found


def mixed(left, sums, turns, work, ahead):
    """(TIMES, MIX): multiples that, added, no values left keep, {} if none were found; and how far the mix is led.

    So many turns are taken at the most, and only as long as no more weights than `work` are looked at. `ahead` is the
    MIX with which to go on, or None.
    """
    mix = Mix(left)
    for number, one in sums:
        mix.take(number, one)
    mix.find_paces()
    if ahead is not None:
        mix.follow(ahead)
    weights = sum([len(row) for row in mix.rows])
    for _ in range(min(turns, work // (weights + 1))):
        if mix.turn():
            return (mix.told(), mix)
        if mix.kept == KEPT_TURNS:
            break
    return ({}, mix)
