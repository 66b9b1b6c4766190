"""Callers: askings by a plan, with a purse, before a gate (points 7.1 to 7.6)."""

from knockpurse.asking import plan_good
from knockpurse.gaps import gap_at
from knockpurse.gates import FIRST_STANDING, HELD, gate_good, heard, lets
from knockpurse.purses import ASK, KNOCK, can_pay, coins_by, purse_good
from knockpurse.stories import SILENT, healed_at, silent_at
from knockpurse.wholes import same

MOST_TIME = 1000
SERVED = "served"
LOST = "lost"


def caller_plan_good(thing):
    """Whether a thing of whatever kind is a plan of a caller."""
    return plan_good(thing) and thing[2] <= MOST_TIME


def caller_good(thing):
    """Whether a thing of whatever kind is a caller."""
    if not isinstance(thing, tuple) or len(thing) != 3:
        return False
    plan, purse, gate = thing
    return caller_plan_good(plan) and purse_good(purse) and gate_good(gate)


def first_of(caller):
    """The standing of a caller at first."""
    plan, purse, gate = caller
    return (0, (), purse[3], FIRST_STANDING, 0)


def knocked(gate, standing, beat, sound):
    """What comes of one that comes to the gate at a beat, and the gate's standing behind it."""
    through, standing_then = lets(gate, standing, beat)
    if not through:
        return (HELD, standing_then)
    return (SERVED if sound else SILENT, heard(gate, standing_then, beat, sound))


def what_of(caller, coins, beat, begin, tries):
    """Why an asking is lost that made so many tries, the last one at a beat, or else the beat of its next try."""
    (gaps, knocks, time), purse, gate = caller
    if tries == knocks:
        return "knocks"
    due = beat + gap_at(gaps, tries)
    if due > begin + time:
        return "time"
    if not can_pay(purse, coins):
        return "purse"
    return due


def tried(caller, standing, sound, number, begin, tries):
    """The standing, its beat the same, and the event behind one try of an asking that made so many ahead."""
    beat, waiting, coins, at_gate, begun = standing
    word, at_gate = knocked(caller[2], at_gate, beat, sound)
    if word == SERVED:
        return ((beat, waiting, coins, at_gate, begun), (number, word, None))
    what = what_of(caller, coins, beat, begin, tries + 1)
    if not isinstance(what, str):
        coins = coins_by(caller[1], coins, KNOCK)
        waiting = waiting + ((what, number, begin, tries + 1),)
    return ((beat, waiting, coins, at_gate, begun), (number, word, what))


def asked(caller, standing):
    """The standing, its beat the same, where one asking more begins: the purse has got its part."""
    beat, waiting, coins, at_gate, begun = standing
    return (beat, waiting, coins_by(caller[1], coins, ASK), at_gate, begun + 1)


def stepped(caller, standing, sound, many):
    """The standing behind a beat at which so many askings begin, and what came of each that tried."""
    beat, waiting, coins, at_gate, begun = standing
    due = sorted([(number, begin, tries) for at, number, begin, tries in waiting if at <= beat])
    then = (beat, tuple([entry for entry in waiting if entry[0] > beat]), coins, at_gate, begun)
    events = []
    for number, begin, tries in due:
        then, event = tried(caller, then, sound, number, begin, tries)
        events.append(event)
    for number in range(begun, begun + many):
        then, event = tried(caller, asked(caller, then), sound, number, beat, 0)
        events.append(event)
    return ((beat + 1, tuple(sorted(then[1]))) + then[2:], tuple(events))


def next_try(standing, askings):
    """The next beat at which an asking tries, None where none waits or is still to begin."""
    beat, waiting, coins, at_gate, begun = standing
    # Both rise, so the first of each is the soonest.
    return min([entry[0] for entry in waiting[:1]] + list(askings[begun:begun + 1]), default=None)


def events_of(caller, askings, story):
    """All events, each with its beat, from the first standing on."""
    standing = first_of(caller)
    told = []
    beat = next_try(standing, askings)
    while beat is not None:
        sound = not silent_at(story, beat)
        standing, events = stepped(caller, (beat,) + standing[1:], sound, askings.count(beat))
        told.extend([(beat, number, word, what) for number, word, what in events])
        beat = next_try(standing, askings)
    return tuple(told)


def ends_of(events, many):
    """What became of each of so many askings."""
    ends = {}
    for beat, number, word, what in events:
        # Later events stand in place of earlier ones, so the last one of each asking is left.
        ends[number] = (SERVED, beat) if word == SERVED else (LOST, beat, what)
    return tuple([ends[number] for number in range(many)])


def gone(caller, askings, story):
    """All events of askings at a house with a story, and what became of each asking."""
    events = events_of(caller, askings, story)
    return (events, ends_of(events, len(askings)))


def gone_good(caller, askings, story, thing):
    """Whether a thing of whatever kind is just what gone tells."""
    return same(thing, gone(caller, askings, story))


def most_tries(caller, many):
    """A bound on the tries of so many askings."""
    (gaps, knocks, time), (part, price, cap, first), gate = caller
    return many + min(many * (knocks - 1), (first + many * part) // price)


def served_from(caller, story):
    """A beat from which on each try is served."""
    if story == ():
        return 0
    fails, rest, times, most, trials = caller[2]
    return healed_at(story) + most - 1
