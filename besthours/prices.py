"""Placings with prices: the cheapest ones, and the bears that show that there is none cheaper."""

from besthours.checks import is_from, is_integer, is_priced, is_row
from besthours.errors import BadParameter, NoRow
from besthours.matchings import LAST_HOUR, MOST_TASKS, hours_of, need_rooms
from besthours.placing import ordered, place_all

MOST_PRICE = 10 ** 6


def need_prices(prices):
    """Prices of tasks as they are handed in."""
    if not isinstance(prices, tuple) or not 1 <= len(prices) <= MOST_TASKS:
        raise BadParameter(prices)
    if not all(is_priced(pairs, LAST_HOUR, 0, MOST_PRICE) for pairs in prices):
        raise BadParameter(prices)
    return prices


def priced_tasks(prices):
    """The hours of each task."""
    return tuple([tuple([hour for hour, _ in pairs]) for pairs in prices])


def need_priced(prices, rooms):
    """Refuse what are no prices of tasks, and what are no rooms for these."""
    need_rooms(priced_tasks(need_prices(prices)), rooms)


def is_bears_of(prices, rooms, value):
    """Whether a value is bears; prices and rooms are right already."""
    if not is_row(value, 2) or not is_row(value[0], len(prices)) or not is_row(value[1], len(rooms)):
        return False
    bids, tolls = value
    if not all(is_integer(bid) for bid in bids) or not all(is_from(toll, 0) for toll in tolls):
        return False
    return all(bid <= price + tolls[hour] for bid, pairs in zip(bids, prices) for hour, price in pairs)


def number_borne(rooms, bears):
    """The number that bears bear."""
    bids, tolls = bears
    return sum(bids) - sum([many * toll for many, toll in zip(rooms, tolls)])


def cheapest(prices, rooms):
    """("plan", PLACING, PRICE, BEARS) with the least price, or ("lot", LOT) if there is no placing."""
    need_priced(prices, rooms)
    placing, lot = place_all([dict(pairs) for pairs in prices], rooms)
    if lot != ():
        return ("lot", lot)
    bears = (tuple(placing.bids), tuple(placing.tolls))
    return ("plan", placing.told(), number_borne(rooms, bears), bears)


def is_bears(prices, rooms, value):
    """Whether a value is bears."""
    need_priced(prices, rooms)
    return is_bears_of(prices, rooms, value)


def borne(prices, rooms, bears):
    """The number that bears bear."""
    need_priced(prices, rooms)
    if not is_bears_of(prices, rooms, bears):
        raise BadParameter(bears)
    return number_borne(rooms, bears)


def least_cheapest(prices, rooms):
    """The least of the placings with the least price."""
    need_priced(prices, rooms)
    placing, lot = place_all(ordered([dict(pairs) for pairs in prices]), rooms)
    if lot != ():
        raise NoRow()
    return placing.told()


def needed_tolls(prices, rooms, tolls):
    """For each hour at which some task may be held its toll, 0 if it has rooms for all of these; ascending."""
    tasks = priced_tasks(prices)
    found = {}
    for hour in hours_of(tasks):
        many = len([task for task in tasks if hour in task])
        found[hour] = 0 if many <= rooms[hour] else tolls[hour]
    return found


def price_weights(pairs, tolls):
    """The weights of a task that end with its prices: PRICE, less the least PRICE and toll, and the greatest toll."""
    least = min([price + tolls[hour] for hour, price in pairs])
    most = max([tolls[hour] for hour, _ in pairs])
    return tuple([price - least + most for _, price in pairs])


def bears_steps(prices, rooms, bears):
    """The proof, by the sums of the hours, that no placing costs less than what bears bear."""
    need_prices(prices)
    if () in prices:
        raise BadParameter(prices)
    need_priced(prices, rooms)
    if not is_bears_of(prices, rooms, bears):
        raise BadParameter(bears)
    tolls = needed_tolls(prices, rooms, bears[1])
    steps = [("demand", number) for number, toll in enumerate(tolls.values()) if toll > 0]
    times = [toll for toll in tolls.values() if toll > 0]
    terms = tuple([(task, price_weights(pairs, tolls)) for task, pairs in enumerate(prices)])
    return tuple(steps) + (("add", tuple(enumerate(times))), ("raise", len(steps), terms))
