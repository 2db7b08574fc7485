"""Cars: how few can carry the riders, who drives, and who sits where."""

from rideturns.errors import NoName
from rideturns.errors import NoSeats
from rideturns.shares import in_order


def seats_of(names, seats):
    """Tell the seats of each name, in the list's order."""
    return [seats.get(name, 0) for name in names]


def lacking(riders, seats):
    """Tell how many riders are left if all drive who can."""
    return max(0, len(riders) - sum(seats_of(riders, seats)))


def fewest(riders, seats):
    """Tell how few drivers can carry all riders."""
    lack = lacking(riders, seats)
    if lack > 0:
        raise NoSeats(lack)
    drivers = 0
    left = len(riders)
    for many in sorted(seats_of(riders, seats), reverse=True):
        if left <= 0:
            break
        drivers += 1
        left -= many
    return drivers


def best_sum(numbers, many):
    """Tell the sum of so many of the greatest numbers."""
    return sum(sorted(numbers, reverse=True)[:many])


def choose(riders, seats, standing=None):
    """Tell who drives, sorted: as few as can be, those with the least credits first."""
    more = fewest(riders, seats)
    left = len(riders)
    ordered = in_order(riders, {} if standing is None else standing)
    room = seats_of(ordered, seats)
    drivers = []
    for at, name in enumerate(ordered):
        # The first choice of all takes each place that the best later ones can still fill up.
        if more > 0 and room[at] + best_sum(room[at + 1:], more - 1) >= left:
            drivers.append(name)
            more -= 1
            left -= room[at]
    return sorted(drivers)


def crews(riders, drivers, seats):
    """Tell how the riders sit with the drivers, as tuples (driver, others)."""
    for driver in drivers:
        if driver not in riders or seats.get(driver, 0) < 1:
            raise NoName(driver)
    lack = len(riders) - sum(seats_of(drivers, seats))
    if lack > 0:
        raise NoSeats(lack)
    waiting = sorted([name for name in riders if name not in drivers])
    cars = []
    for driver in sorted(drivers):
        room = seats[driver] - 1
        cars.append((driver, tuple(waiting[:room])))
        waiting = waiting[room:]
    return cars


def is_car(thing, seats):
    """Tell of anything whether it is a car, (driver, others), with no more folk than seats."""
    if not isinstance(thing, tuple) or len(thing) != 2 or not isinstance(thing[1], tuple):
        return False
    folk = [thing[0], *thing[1]]
    return all([isinstance(name, str) for name in folk]) and len(folk) <= seats.get(thing[0], 0)


def carries(riders, seats, thing):
    """Tell of anything whether it is a list of cars that carry all riders, each once, and nobody else."""
    if not isinstance(thing, list) or not all([is_car(car, seats) for car in thing]):
        return False
    seated = [name for driver, others in thing for name in [driver, *others]]
    return sorted(seated) == sorted(riders)
