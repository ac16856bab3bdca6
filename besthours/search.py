"""Problems of sums over choices: what narrowing leaves, the least row that keeps all sums, or a proof without one."""

from besthours.checks import is_row, is_set, is_within
from besthours.engine import engine_of
from besthours.errors import BadParameter, BadSum
from besthours.lowering import lowered
from besthours.store import full_masks, is_open, least_bit, mask_of
from besthours.sums import greatest_in, is_sum, need_sizes
from besthours.walking import right_sums

MOST_SUMS = 40000
MOST_STEPS = 10 ** 6


def need_sums(sizes, sums):
    """The sums of a problem as they are handed in."""
    need_sizes(sizes)
    if not isinstance(sums, tuple) or len(sums) > MOST_SUMS:
        raise BadParameter(sums)
    for one in sums:
        if not is_sum(sizes, one):
            raise BadSum(one)
    return sums


def is_fixed(sizes, value):
    """Whether a value is an ascending tuple of unlike choices, each with a SET of values of it, not empty."""
    if not isinstance(value, tuple):
        return False
    least = 0
    for pair in value:
        if not is_row(pair, 2) or not is_within(pair[0], least, len(sizes) - 1):
            return False
        if not is_set(pair[1], sizes[pair[0]] - 1) or pair[1] == ():
            return False
        least = pair[0] + 1
    return True


def need_problem(sizes, sums, fixed):
    """Refuse what is no problem."""
    need_sums(sizes, sums)
    if not is_fixed(sizes, fixed):
        raise BadParameter(fixed)


def fixed_masks(sizes, fixed):
    """The MASKS of fixed, and of all values elsewhere."""
    masks = full_masks(sizes)
    for choice, values in fixed:
        masks[choice] = mask_of(values)
    return masks


def sets_told(engine):
    """The sets at which a search stands."""
    return tuple([engine.bits.of(mask) for mask in engine.sets])


def problem_engine(sizes, sums):
    """A search over some sums."""
    return engine_of(sizes, [(number, one, 0) for number, one in enumerate(sums)])


def narrowed(sizes, sums, fixed):
    """The sets that are left if values that can't be are taken out, None if a sum is broken on the way."""
    need_problem(sizes, sums, fixed)
    engine = problem_engine(sizes, sums)
    engine.begin(fixed_masks(sizes, fixed), 0)
    return sets_told(engine) if engine.propagate() is None else None


def search_under(sizes, sums, fixed):
    """("row", ROW), the least row that keeps all sums and lies in fixed, or ("proof", STEPS)."""
    need_problem(sizes, sums, fixed)
    engine = problem_engine(sizes, sums)
    sets = fixed_masks(sizes, fixed)
    found = engine.run(sets, 0, None)
    if found[0] == "proof":
        return ("proof", engine.store.proof([found[1]], ())[0])
    return ("row", lowered(engine, sets, 0, found[1], len(sizes))[0])


def search(sizes, sums):
    """("row", ROW), the least row that keeps all sums, or ("proof", STEPS)."""
    return search_under(sizes, sums, ())


def is_refuted(sizes, sums, fixed, value):
    """Whether a value is a proof by some sums whose last sum is broken by fixed."""
    need_problem(sizes, sums, fixed)
    found = right_sums(sizes, (sums, ()), value)
    if found is None or found == []:
        return False
    values = dict(fixed)
    sets = [values.get(choice, tuple(range(many))) for choice, many in enumerate(sizes)]
    return greatest_in(found[-1], sets) < found[-1][1]


def settle_once(engine, sets, number):
    """Learn from a broken sum; tells whether the search goes on, or else lays back all."""
    decided = [engine.trail[at][0] for at, _, _ in engine.marks]
    engine.clear_queue()
    if engine.settle(number, False) is not None:
        engine.begin(sets, 0)
        return False
    # within the same step what is learnt takes out the value for which it was decided
    learnt = engine.store.learnt[-1]
    choice = decided[len(engine.marks)]
    engine.narrow_at(learnt, choice, dict(engine.store.rows[learnt])[choice])
    return True


def step_on(engine, sets):
    """Do one step of the search; tells whether it goes on."""
    number = engine.look()
    while number is not None:
        if engine.slacks[number] < 0:
            return settle_once(engine, sets, number)
        if engine.narrow(number):
            return True
        number = engine.look()
    for choice, mask in enumerate(engine.sets):
        if is_open(mask):
            engine.decide(choice, least_bit(mask))
            return True
    return False


def many_left(engine, sets):
    """How many values are left in sets together."""
    return sum([len(engine.bits.of(mask)) for mask in sets])


def state_of(engine):
    """(SETS, DECISIONS, LEFT, STEPS) of a search."""
    decided = [engine.trail[at] for at, _, _ in engine.marks]
    decisions = tuple([(choice, least_bit(mask)) for choice, mask, _ in decided])
    left = [many_left(engine, sets) for _, sets, _ in engine.marks] + [many_left(engine, engine.sets)]
    return (sets_told(engine), decisions, tuple(left), tuple(engine.store.steps))


def search_after(sizes, sums, fixed, many):
    """The state (SETS, DECISIONS, LEFT, STEPS) behind so many steps, or behind the last one."""
    need_problem(sizes, sums, fixed)
    if not is_within(many, 0, MOST_STEPS):
        raise BadParameter(many)
    engine = problem_engine(sizes, sums)
    sets = fixed_masks(sizes, fixed)
    engine.begin(sets, 0)
    done = 0
    while done < many and step_on(engine, sets):
        done += 1
    return state_of(engine)
