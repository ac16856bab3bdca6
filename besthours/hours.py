"""Days, their hours, and SETs."""

from besthours.checks import is_set, is_within
from besthours.errors import BadDays, BadParameter, BadSet, NoRow

MOST_DAYS = 7
MOST_HOURS = 12
MOST_LENGTH = 4
GREATEST_MOST = 10 ** 6


def is_days(value):
    """Whether a value is DAYS."""
    if not isinstance(value, tuple) or not 1 <= len(value) <= MOST_DAYS:
        return False
    return all(is_within(many, 1, MOST_HOURS) for many in value)


def day_at(days, hour):
    """The number of the day of an hour; both are right already."""
    day = 0
    while hour >= sum(days[:day + 1]):
        day += 1
    return day


def hours_at(days, day):
    """The hours of a day; both are right already."""
    first = sum(days[:day])
    return tuple(range(first, first + days[day]))


def starts_in(days, length):
    """The hours from which on `length` hours are of one day, ascending."""
    found = []
    first = 0
    for many in days:
        found.extend([hour for hour in range(first, first + many - length + 1)])
        first = first + many
    return found


def need_days(days):
    """DAYS as they are handed in."""
    if not is_days(days):
        raise BadDays(days)
    return days


def need_set(value, most):
    """A SET of integers from 0 to `most`, as it is handed in."""
    if not is_within(most, 0, GREATEST_MOST):
        raise BadParameter(most)
    if not is_set(value, most):
        raise BadSet(value)
    return value


def hours_in(days):
    """How many hours the days have together."""
    return sum(need_days(days))


def day_of(days, hour):
    """The number of the day of an hour."""
    if not is_within(hour, 0, hours_in(days) - 1):
        raise BadParameter(hour)
    return day_at(days, hour)


def day_hours(days, day):
    """The SET of the hours of a day."""
    need_days(days)
    if not is_within(day, 0, len(days) - 1):
        raise BadParameter(day)
    return hours_at(days, day)


def held_hours(days, length, hour):
    """The SET of the `length` hours from `hour` on, all of one day."""
    need_days(days)
    if not is_within(length, 1, MOST_LENGTH):
        raise BadParameter(length)
    if not is_within(hour, 0, hours_in(days) - 1):
        raise BadParameter(hour)
    if hour not in starts_in(days, length):
        raise NoRow()
    return tuple(range(hour, hour + length))
