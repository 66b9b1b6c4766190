"""One asking: knocks by a plan at a house with a story (points 3.1 to 3.6)."""

from knockpurse.gaps import beats_of, gaps_good
from knockpurse.stories import healed_at, silent_at, stretches_of
from knockpurse.wholes import choices, same, whole_in

MOST_KNOCKS = 200
MOST_TIME = 400000


def plan_good(thing):
    """Whether a thing of whatever kind is a plan."""
    if not isinstance(thing, tuple) or len(thing) != 3:
        return False
    gaps, knocks, time = thing
    return gaps_good(gaps) and whole_in(knocks, 1, MOST_KNOCKS) and whole_in(time, 0, MOST_TIME)


def knocks_of(plan, begin):
    """The beats at which an asking knocks where the house is silent all the time."""
    gaps, knocks, time = plan
    return [begin + beat for beat in beats_of(gaps, knocks) if beat <= time]


def run_of(plan, story, begin):
    """The run of an asking: its beats and its end."""
    beats = []
    for beat in knocks_of(plan, begin):
        beats.append(beat)
        if not silent_at(story, beat):
            return (tuple(beats), "served")
    if len(beats) == plan[1]:
        return (tuple(beats), "knocks")
    return (tuple(beats), "time")


def run_good(plan, story, begin, thing):
    """Whether a thing of whatever kind is just the run of an asking."""
    return same(thing, run_of(plan, story, begin))


def served_by(plan, begin, h):
    """The beat by which an asking is served where the house answers from h on, None where it may be lost."""
    for beat in knocks_of(plan, begin):
        if beat >= h:
            return beat
    return None


def widest_of(plan):
    """The greatest gap between two knocks, 0 where there is but one."""
    beats = knocks_of(plan, 0)
    return max([beat - ahead for ahead, beat in zip(beats, beats[1:])], default=0)


def least_silence(plan):
    """How many beats long the shortest single stretch is by which some asking is lost."""
    # It must reach from the first knock to the last one, wherever the asking begins.
    return healed_at(hardest(plan, 0))


def hardest(plan, begin):
    """The story with the fewest silent beats by which an asking is lost."""
    return stretches_of(knocks_of(plan, begin))


def lost_many(plan, n, m):
    """By how many of the stories that are silent at just m of n beats an asking is lost."""
    if least_silence(plan) > n:
        return 0
    # All its knocks fall on silent beats; the other silent beats lie anywhere else.
    knocks = len(knocks_of(plan, 0))
    return choices(n - knocks, m - knocks)
