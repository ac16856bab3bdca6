"""Tasks that come every so many weeks: when they meet, how many are held at once, and phases for periods."""

from math import gcd, lcm

from besthours.checks import is_from, is_row, is_within
from besthours.errors import BadParameter, BadPeriods, NoRow, TooGreat

MOST_BEATS = 40
MOST_PERIOD = 24
MOST_ROOMS = 40
MOST_WEEKS = 2520
MOST_ROWS = 5000


def is_beat(value):
    """Whether a value is a beat."""
    return is_row(value, 2) and is_within(value[0], 1, MOST_PERIOD) and is_within(value[1], 0, value[0] - 1)


def need_beat(value):
    """A single beat as it is handed in."""
    if not is_beat(value):
        raise BadParameter(value)
    return value


def need_tuple(value):
    """A tuple of not too many things, as it is handed in."""
    if not isinstance(value, tuple) or len(value) > MOST_BEATS:
        raise BadPeriods(())
    return value


def need_beats(beats):
    """Beats as they are handed in."""
    for index, beat in enumerate(need_tuple(beats)):
        if not is_beat(beat):
            raise BadPeriods((index,))
    return beats


def need_periods(periods):
    """Periods as they are handed in."""
    for index, period in enumerate(need_tuple(periods)):
        if not is_within(period, 1, MOST_PERIOD):
            raise BadPeriods((index,))
    return periods


def need_rooms(rooms):
    """The number of rooms as it is handed in."""
    if not is_within(rooms, 0, MOST_ROOMS):
        raise BadParameter(rooms)
    return rooms


def weeks_of(periods):
    """After how many weeks all begins again; refused if these are too many."""
    weeks = 1
    for period in periods:
        weeks = lcm(weeks, period)
    if weeks > MOST_WEEKS:
        raise TooGreat(MOST_WEEKS)
    return weeks


def weeks_of_beats(beats):
    """After how many weeks beats begin again."""
    return weeks_of([period for period, _ in beats])


def held_in(beats, week):
    """The numbers of the beats that are held in a week, ascending."""
    return tuple([number for number, (period, phase) in enumerate(beats) if week % period == phase])


def held(beats, week):
    """The SET of the numbers of the beats that are held in a week."""
    need_beats(beats)
    if not is_from(week, 0):
        raise BadParameter(week)
    return held_in(beats, week)


def leave_alike(one, other, later):
    """Whether some week of the first beat is followed by one of the other one so many weeks later."""
    return (other[1] - one[1] - later) % gcd(one[0], other[0]) == 0


def meets(one, other):
    """Whether two beats are held in one week."""
    return leave_alike(need_beat(one), need_beat(other), 0)


def first_meeting(one, other):
    """The first week in which two beats are held."""
    period, phase = need_beat(one)
    need_beat(other)
    for week in range(phase, lcm(period, other[0]), period):
        if week % other[0] == other[1]:
            return week
    raise NoRow()


def follows(one, other):
    """Whether in some week the first beat is held and in the next one the second beat."""
    return leave_alike(need_beat(one), need_beat(other), 1)


def round_length(beats):
    """After how many weeks all begins again."""
    return weeks_of_beats(need_beats(beats))


def unrolled(beats):
    """For each week, until all begins again, the SET of the beats that are held."""
    need_beats(beats)
    return tuple([held_in(beats, week) for week in range(weeks_of_beats(beats))])


def most_at_once(beats):
    """The greatest number of beats that are held in a week."""
    need_beats(beats)
    return max([len(held_in(beats, week)) for week in range(weeks_of_beats(beats))])


def fits(beats, rooms):
    """Whether in no week more beats are held than there are rooms."""
    need_beats(beats)
    need_rooms(rooms)
    return most_at_once(beats) <= rooms


class Weeks:
    """The rooms that are left in each week while periods get their phases."""

    def __init__(self, weeks, rooms):
        self.many = weeks
        self.left = [rooms for _ in range(weeks)]

    def least_phase(self, period, least):
        """The least phase from `least` on that fits beside what is held, None without one."""
        for phase in range(least, period):
            if min(self.left[phase::period]) > 0:
                return phase
        return None

    def hold(self, period, phase, many):
        """Take so many rooms in each week of a beat."""
        for week in range(phase, self.many, period):
            self.left[week] -= many


def least_phases(weeks, periods):
    """The least phases with which some periods fit beside what is held in the weeks, None without any."""
    phases = []
    least = 0
    while len(phases) < len(periods):
        period = periods[len(phases)]
        phase = weeks.least_phase(period, least)
        if phase is not None:
            weeks.hold(period, phase, 1)
            phases.append(phase)
            least = 0
        elif phases != []:
            # the one ahead must have a greater phase
            phase = phases.pop()
            weeks.hold(periods[len(phases)], phase, -1)
            least = phase + 1
        else:
            return None
    return phases


def all_fit(periods, rooms):
    """The least phases with which periods fit."""
    need_periods(periods)
    need_rooms(rooms)
    rows = 1
    for period in periods:
        rows = rows * period
    if rows > MOST_ROWS:
        raise TooGreat(MOST_ROWS)
    # those of every week have no choice: they come first, so that not each row of the others finds out about them
    numbers = sorted(range(len(periods)), key=lambda number: periods[number] > 1)
    phases = least_phases(Weeks(weeks_of(periods), rooms), [periods[number] for number in numbers])
    if phases is None:
        raise NoRow()
    told = dict(list(zip(numbers, phases)))
    return tuple([told[number] for number in range(len(periods))])


def divides_on(periods):
    """Whether each of ascending periods divides the next one."""
    return all(later % period == 0 for period, later in zip(periods, periods[1:]))


def is_chain(periods):
    """Whether of periods, put in ascending order, each divides the next one."""
    return divides_on(sorted(need_periods(periods)))


def share_of(periods):
    """(P, Q): the sum of all 1 / PERIOD, without a common divisor."""
    whole = weeks_of(periods)
    part = sum([whole // period for period in periods])
    common = gcd(part, whole)
    return (part // common, whole // common)


def chain_phases(periods, rooms):
    """("phases", PHASES) of a chain, or ("share", P, Q) if it needs more than there are rooms."""
    need_periods(periods)
    need_rooms(rooms)
    if not is_chain(periods):
        raise BadPeriods(())
    part, whole = share_of(periods)
    if part > rooms * whole:
        return ("share", part, whole)
    weeks = Weeks(weeks_of(periods), rooms)
    phases = {}
    for number in sorted(range(len(periods)), key=lambda one: periods[one]):
        phases[number] = weeks.least_phase(periods[number], 0)
        weeks.hold(periods[number], phases[number], 1)
    return ("phases", tuple([phases[number] for number in range(len(periods))]))
