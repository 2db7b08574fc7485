"""Days ahead: who would drive whom, day by day."""

from rideturns.cars import choose
from rideturns.cars import crews
from rideturns.cars import lacking
from rideturns.kinds import check_span
from rideturns.rides import Ride
from rideturns.standings import joined


def gives_of(day, driver, others):
    """Tell the credits that a planned car gives."""
    return Ride(day, driver, [(other, 0, 1) for other in others]).gives()


def plan_ahead(wants, book, first, last):
    """Tell tuples (day, crews, lack) of each day, from the one to the other, on which anybody wants to ride."""
    check_span(first, last)
    standing = book.stands()
    plan = []
    for day in range(first, last + 1):
        riders = wants.riders(day)
        if len(riders) == 0:
            continue
        room = wants.room(day)
        lack = lacking(riders, room)
        cars = [] if lack > 0 else crews(riders, choose(riders, room, standing), room)
        plan.append((day, cars, lack))
        standing = joined(standing, [gives_of(day, driver, others) for driver, others in cars])
    return plan
