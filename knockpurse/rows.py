"""Rows of houses: askings whose knocks are askings themselves (points 9.1 to 9.5)."""

from knockpurse.asking import plan_good
from knockpurse.callers import LOST, SERVED
from knockpurse.errors import NoNumber
from knockpurse.gaps import gap_at, sum_of
from knockpurse.stories import silent_at
from knockpurse.wholes import same, whole_in

MOST_PLANS = 4
MOST_ROW_KNOCKS = 6


def row_good(thing):
    """Whether a thing of whatever kind is a row."""
    if not isinstance(thing, tuple) or len(thing) < 1 or len(thing) > MOST_PLANS:
        return False
    return all([plan_good(plan) and plan[1] <= MOST_ROW_KNOCKS for plan in thing])


def asked_down(row, story, begin, latest):
    """Whether an asking is served that knocks no later than latest, the beats at the house, and each plan's knocks."""
    if row == ():
        return (not silent_at(story, begin), [begin], [])
    gaps, knocks, time = row[0]
    last = min(latest, begin + time)
    served = False
    beats = []
    counts = [0] * len(row)
    beat = begin
    while not served and counts[0] < knocks and beat <= last:
        served, further, below = asked_down(row[1:], story, beat, last)
        beats = beats + further
        counts = [count + more for count, more in zip(counts, [1] + below)]
        beat = further[-1] + gap_at(gaps, counts[0])
    return (served, beats, counts)


def go_down(row, story, begin):
    """The end of an asking of a row, the beats of the knocks at the house, and how many knocks each plan had."""
    served, beats, counts = asked_down(row, story, begin, begin + row[0][2])
    return ((SERVED if served else LOST, beats[-1]), tuple(beats), tuple(counts))


def go_good(row, story, begin, thing):
    """Whether a thing of whatever kind is just what go_down tells."""
    return same(thing, go_down(row, story, begin))


def most_down(row):
    """How many knocks come to the house at most by one asking."""
    many = 1
    for gaps, knocks, time in row:
        many *= knocks
    return many


def beats_needed(row):
    """The least time of all plans with which an asking makes the most knocks at a silent house."""
    needed = 0
    for gaps, knocks, time in reversed(row):
        # Each knock takes as long as the asking does that it is; the gaps lie between them.
        needed = knocks * needed + sum_of(gaps, knocks - 1)
    return needed


def places_good(row, thing):
    """Whether a thing of whatever kind is a rising tuple of places of a row."""
    if not isinstance(thing, tuple) or not all([whole_in(place, 0, len(row) - 1) for place in thing]):
        return False
    return all([ahead < place for ahead, place in zip(thing, thing[1:])])


def once_at(row, places):
    """The row in which the plans at these places knock but once."""
    if not places_good(row, places):
        raise NoNumber()
    return tuple([(gaps, 1 if at in places else knocks, time) for at, (gaps, knocks, time) in enumerate(row)])


def all_places(many):
    """All rising tuples of places of so many plans, those of fewer places first, then as tuples compare."""
    chosen = [()]
    for place in range(many):
        chosen = chosen + [places + (place,) for places in chosen]
    return sorted(chosen, key=lambda places: (len(places), places))


def calm_row(row, most):
    """The fewest places such that, where the plans there knock but once, no more than most knocks come."""
    chosen = ()
    for places in all_places(len(row)):
        chosen = places
        if most_down(once_at(row, places)) <= most:
            break
    return chosen
