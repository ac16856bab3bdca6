"""Tasks placed on hours, one by one, so that all of them together cost the least.

Each task has a *bid*, each hour a *toll*: no bid is above a price and the toll of its hour, and a task stands only
where it is just as much. An hour with a room to spare has no toll. So the bids, less the tolls of all rooms, are the
price of the tasks placed, and no other placing of them costs less.
"""

# placings are compared like numbers whose figures are the hours
HOURS = 100


class Placing:
    """Tasks with their prices (for each a dict of hours), some of them placed."""

    def __init__(self, prices, rooms):
        self.prices = prices
        self.rooms = rooms
        self.hours = {}
        self.guests = [[] for _ in rooms]
        self.bids = [0 for _ in prices]
        self.tolls = [0 for _ in rooms]
        # how far hours are from a new task, those reached already and others, and who would move there
        self.near = {}
        self.far = {}
        self.movers = {}

    def look_round(self, task, way):
        """Tell how far the hours of a task are if the task itself is so far away."""
        for hour, price in self.prices[task].items():
            longer = way + price + self.tolls[hour] - self.bids[task]
            if hour not in self.near and (hour not in self.far or longer < self.far[hour]):
                self.far[hour] = longer
                self.movers[hour] = task

    def reach(self, task):
        """Reach hours from a new task, the nearest one first, up to one with a room to spare; None without one."""
        self.near = {}
        self.far = {}
        self.movers = {}
        self.look_round(task, 0)
        while self.far != {}:
            ways = self.far
            hour = min(ways, key=lambda one: ways[one])
            self.near[hour] = self.far.pop(hour)
            if len(self.guests[hour]) < self.rooms[hour]:
                return hour
            for guest in self.guests[hour]:
                self.look_round(guest, self.near[hour])
        return None

    def charge(self, task, hour):
        """Raise bids and tolls so that tasks may move on the way to an hour that was reached from a new task."""
        end = self.near[hour]
        for one, way in self.near.items():
            self.tolls[one] += end - way
            for guest in self.guests[one]:
                self.bids[guest] += end - way
        self.bids[task] = end

    def move_on(self, hour):
        """Let all move on the way to an hour, so that the new task is placed."""
        free = hour
        while free is not None:
            mover = self.movers[free]
            left = self.hours.get(mover)
            self.hours[mover] = free
            self.guests[free].append(mover)
            if left is not None:
                self.guests[left].remove(mover)
            free = left

    def add_task(self, task):
        """Place a new task, if that can be: () or a lot, a SET of tasks that have too few rooms together."""
        hour = self.reach(task)
        if hour is None:
            # all hours of these tasks are reached, and no room is left there
            return tuple(sorted([task] + [guest for one in self.near for guest in self.guests[one]]))
        self.charge(task, hour)
        self.move_on(hour)
        return ()

    def told(self):
        """The tuple of the hours of all tasks."""
        return tuple([self.hours[task] for task in range(len(self.prices))])


def place_all(prices, rooms):
    """(PLACING, LOT): a Placing of all tasks, LOT being (); or a LOT that can't be placed."""
    placing = Placing(prices, rooms)
    for task in range(len(prices)):
        lot = placing.add_task(task)
        if lot != ():
            return (placing, lot)
    return (placing, ())


def ordered(prices):
    """Prices by which, of two placings that cost the same, the lesser one is cheaper; others stay as they were."""
    figures = []
    whole = 1
    for _ in prices:
        figures.append(whole)
        whole = whole * HOURS
    return [
        {hour: price * whole + hour * figure for hour, price in those.items()}
        for those, figure in zip(prices, figures[::-1])
    ]
