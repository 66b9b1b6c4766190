"""Time left, handed on from house to house, and askings of one house (points 6.1 to 6.6)."""

from knockpurse.errors import NoStep, TooGreat
from knockpurse.wholes import is_whole, whole_in, wholes_in

HOUSE_BOUNDS = ((1, 1000), (0, 1000))
MOST_HOUSES = 8
MOST_ORDERED = 6


def road_good(thing):
    """Whether a thing of whatever kind is a road."""
    if not isinstance(thing, tuple) or len(thing) < 1 or len(thing) > MOST_HOUSES:
        return False
    return all([wholes_in(house, HOUSE_BOUNDS) for house in thing])


def times_of(road, time):
    """What is left at each house that is come to."""
    times = []
    left = time
    for need, keep in road:
        times.append(left)
        if left < need:
            break
        left = max(left - need - keep, 0)
    return times


def turned_at(road, time):
    """The number of the house that turns away, None where none does."""
    for number, left in enumerate(times_of(road, time)):
        if left < road[number][0]:
            return number
    return None


def needs_of(road):
    """The beats that all houses of a road work."""
    return sum([need for need, keep in road])


def least_time(road):
    """The least time with which no house turns away."""
    # Behind the last house nothing is handed on, so what it keeps is not missed.
    return needs_of(road) + sum([keep for need, keep in road[:-1]])


def vain_of(road, time):
    """The beats that are worked in vain."""
    turned = turned_at(road, time)
    if turned is None:
        return 0
    return needs_of(road[:turned])


def blind_of(road, time):
    """The beats that are worked in vain where nothing is handed on."""
    needs = needs_of(road)
    if needs > time:
        return needs
    return 0


def order_good(road, thing):
    """Whether a thing of whatever kind is an order of the houses of a road."""
    if not isinstance(thing, tuple) or not all([is_whole(number) for number in thing]):
        return False
    return sorted(thing) == list(range(len(road)))


def ordered(road, order):
    """The road with its houses in an order."""
    if not order_good(road, order):
        raise NoStep()
    return tuple([road[number] for number in order])


def best_order(road):
    """The order with which least_time is least, of several the least."""
    # least_time leaves out what the last house keeps, and nothing else of it hangs on the order.
    by_keep = sorted(range(len(road)), key=lambda number: (road[number][1], number))
    return tuple(sorted(by_keep[:-1]) + by_keep[-1:])


def all_orders(many):
    """All orders of so many houses."""
    orders = [()]
    for place in range(many):
        orders = [order + (number,) for order in orders for number in range(many) if number not in order]
    return orders


def least_vain(road, time):
    """The least beats that are worked in vain in any order."""
    if len(road) > MOST_ORDERED:
        raise TooGreat(len(road), MOST_ORDERED)
    return min([vain_of(ordered(road, order), time) for order in all_orders(len(road))])


def done_by_time(need, askings):
    """The beat at which each asking is done by the time left, None where it is turned away."""
    free = 0
    done = []
    for beat, time in askings:
        end = max(beat, free) + need
        if end <= beat + time:
            done.append(end)
            free = end
        else:
            done.append(None)
    return done


def done_blindly(need, askings):
    """The beat at which each asking is done, in time or not."""
    free = 0
    done = []
    for beat, time in askings:
        free = max(beat, free) + need
        done.append(free)
    return done


def vain_askings(need, askings):
    """How many of the askings that are done blindly are not done in time."""
    late = [end > beat + time for end, (beat, time) in zip(done_blindly(need, askings), askings)]
    return late.count(True)


def entry_good(need, askings, thing, free):
    """Whether a thing of whatever kind is an asking and a begin that may stand in a schedule from free on."""
    if not isinstance(thing, tuple) or len(thing) != 2:
        return False
    if not whole_in(thing[0], 0, len(askings) - 1):
        return False
    beat, time = askings[thing[0]]
    return whole_in(thing[1], max(beat, free), beat + time - need)


def schedule_good(need, askings, thing):
    """Whether a thing of whatever kind is a schedule."""
    if not isinstance(thing, tuple):
        return False
    taken = []
    free = 0
    for entry in thing:
        if not entry_good(need, askings, entry, free) or entry[0] in taken:
            return False
        taken.append(entry[0])
        free = entry[1] + need
    return True


def longer_by_one(need, askings, schedule):
    """The schedules that have one asking more behind those of a schedule, begun as soon as can be."""
    taken = [number for number, begin in schedule]
    free = schedule[-1][1] + need if schedule else 0
    longer = []
    for number, (beat, time) in enumerate(askings):
        begin = max(beat, free)
        if number not in taken and begin + need <= beat + time:
            longer.append(schedule + ((number, begin),))
    return longer


def soonest_of_each(schedules):
    """Of all schedules that have the same askings the one that is done soonest."""
    soonest = {}
    for schedule in schedules:
        taken = tuple(sorted([number for number, begin in schedule]))
        if taken not in soonest or schedule[-1][1] < soonest[taken][-1][1]:
            soonest[taken] = schedule
    return list(soonest.values())


def schedule_for(need, askings):
    """Some schedule with as many askings as a schedule has at most."""
    best = ()
    schedules = [best]
    while schedules:
        best = schedules[0]
        longer = [more for schedule in schedules for more in longer_by_one(need, askings, schedule)]
        # What can come behind hangs on the askings that are taken and on the beat they are done at alone.
        schedules = soonest_of_each(longer)
    return best


def most_served(need, askings):
    """How many askings a schedule has at most."""
    return len(schedule_for(need, askings))
