"""Worst stories: what all stories of a few beats come to at most, and what shows it (points 8.1 to 8.7)."""

from knockpurse.callers import SERVED, first_of, stepped
from knockpurse.gates import HELD, SHUT
from knockpurse.stories import silent_at, silent_many, story_at
from knockpurse.wholes import is_whole, same


def told_behind(caller, told, sound, many):
    """What is told behind one beat more, at which so many askings begin."""
    standing, knocks, served, lost = told
    then, events = stepped(caller, standing, sound, many)
    words = [word for number, word, what in events]
    # What an event tells is a text where its asking is lost, and nowhere else.
    lost_now = [number for number, word, what in events if isinstance(what, str)]
    return (
        then,
        knocks + len(words) - words.count(HELD),
        served + words.count(SERVED),
        lost + len(lost_now),
    )


def told_of(caller, beginnings, story):
    """The standing behind all beats, how many knocks came, how many askings were served, how many were lost."""
    told = (first_of(caller), 0, 0, 0)
    for beat, many in enumerate(beginnings):
        told = told_behind(caller, told, not silent_at(story, beat), many)
    return told


def all_told(caller, beginnings):
    """What told_of tells of each story of as many beats as there are beginnings, at the place of its number."""
    row = [(first_of(caller), 0, 0, 0)]
    for many in beginnings:
        # A beat that is silent adds to a number just as many as there are stories of the beats ahead.
        row = [told_behind(caller, told, sound, many) for sound in (True, False) for told in row]
    return row


def knocks_by_all(caller, beginnings):
    """How many knocks come by each story, at the place of its number."""
    return [knocks for standing, knocks, served, lost in all_told(caller, beginnings)]


def served_by_all(caller, beginnings):
    """How many askings are served by each story, at the place of its number."""
    return [served for standing, knocks, served, lost in all_told(caller, beginnings)]


def most_knocks(caller, beginnings):
    """The most knocks that come by a story."""
    return max(knocks_by_all(caller, beginnings))


def worst_story(caller, beginnings):
    """The story of the least number by which the most knocks come."""
    knocks = knocks_by_all(caller, beginnings)
    return story_at(knocks.index(max(knocks)), len(beginnings))


def fewest_served(caller, beginnings):
    """The fewest askings that are served by a story."""
    return min(served_by_all(caller, beginnings))


def fewest_story(caller, beginnings):
    """The story of the least number by which the fewest askings are served."""
    served = served_by_all(caller, beginnings)
    return story_at(served.index(min(served)), len(beginnings))


def standings_ahead(caller, beginnings):
    """The rising list of the standings to which a caller may come, ahead of each beat and behind the last."""
    layers = [[first_of(caller)]]
    for many in beginnings:
        ahead = layers[-1]
        behind = sorted({stepped(caller, standing, sound, many)[0] for standing in ahead for sound in (True, False)})
        layers.append(behind)
    return layers


def least_mark(caller, standing, many, behind):
    """The least mark of a standing ahead of a beat, by the marks of the standings behind it."""
    steps = [told_behind(caller, (standing, 0, 0, 0), sound, many) for sound in (True, False)]
    return max([knocks + behind[then] for then, knocks, served, lost in steps])


def marks_for(caller, beginnings, k):
    """Some marks that show k, None where a story has more than k knocks."""
    layers = standings_ahead(caller, beginnings)
    behind = {standing: 0 for standing in layers[-1]}
    marks = [list(behind.items())]
    for standings, many in reversed(list(zip(layers, beginnings))):
        ahead = {standing: least_mark(caller, standing, many, behind) for standing in standings}
        marks.append(list(ahead.items()))
        behind = ahead
    if behind[first_of(caller)] > k:
        return None
    return marks[::-1]


def mark_good(thing, standing):
    """Whether a thing of whatever kind is a standing and a mark."""
    if not isinstance(thing, tuple) or len(thing) != 2:
        return False
    return same(thing[0], standing) and is_whole(thing[1]) and thing[1] >= 0


def marks_of_beat_good(thing, standings):
    """Whether a thing of whatever kind is a list of just these standings, each with a mark."""
    if not isinstance(thing, list) or len(thing) != len(standings):
        return False
    return all([mark_good(part, standing) for part, standing in zip(thing, standings)])


def marks_good(caller, beginnings, k, thing):
    """Whether a thing of whatever kind is marks that show k."""
    layers = standings_ahead(caller, beginnings)
    if not isinstance(thing, list) or len(thing) != len(layers):
        return False
    if not all([marks_of_beat_good(part, standings) for part, standings in zip(thing, layers)]):
        return False
    for at, many in enumerate(beginnings):
        behind = {standing: mark for standing, mark in thing[at + 1]}
        if any([mark < least_mark(caller, standing, many, behind) for standing, mark in thing[at]]):
            return False
    return thing[0][0][1] <= k


def losing_story(caller, beginnings):
    """The story with the fewest silent beats by which an asking is lost, of several that of the least number."""
    n = len(beginnings)
    losing = [story_at(number, n) for number, told in enumerate(all_told(caller, beginnings)) if told[3] > 0]
    # They stand by their numbers, and of several that are least min tells the first.
    return min(losing, key=lambda story: silent_many(story, 0, n), default=None)


def least_silent(caller, beginnings):
    """The fewest silent beats of a story by which an asking is lost, None where by none one is."""
    story = losing_story(caller, beginnings)
    if story is None:
        return None
    return silent_many(story, 0, len(beginnings))


def calm_from(caller, beginnings):
    """The least beat behind the beginnings from which on each try is served, whatever the story was."""
    gates = [standing[3] for standing in standings_ahead(caller, beginnings)[-1]]
    # At a sound house no gate shuts any more: who tries is held ahead of the end of a rest alone.
    return max([len(beginnings)] + [gate[1] for gate in gates if gate[0] == SHUT])


def more_by(one, other, beginnings):
    """The story of the least number by which one has more knocks than the other, None where there is none."""
    other_knocks = knocks_by_all(other, beginnings)
    for number, knocks in enumerate(knocks_by_all(one, beginnings)):
        if knocks > other_knocks[number]:
            return story_at(number, len(beginnings))
    return None
