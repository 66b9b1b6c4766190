"""Points 7.1 to 7.6."""

import itertools
import random
import unittest

from knockpurse.asking import run_of
from knockpurse.callers import (
    caller_good, first_of, gone, gone_good, most_tries, served_from, stepped,
)
from knockpurse.gaps import gap_at
from knockpurse.gates import Gate, most_let, standing_good
from knockpurse.purses import Purse
from knockpurse.stories import healed_at, silent_at, story_of
from tests.things import HUGE, asked_fairly, spoiled, whatever

EACH = (1, 1, 0, 1)
SLOW = (3, 2, 1, 50)
RICH = (0, 1, 10000, 10000)
EMPTY = (0, 1, 0, 0)
WIDE = (20, 1, 1, 1, 1)
SHY = (1, 4, 2, 10, 2)
CALLER = ((SLOW, 4, 100), (2, 3, 7, 4), (2, 4, 2, 10, 2))
GREATEST = (((1000, 10, 1000, 1000), 200, 1000), (1000, 1000, 10000, 10000), (20, 1000, 10, 1000, 10))
LEAST = ((EACH, 1, 0), EMPTY, (1, 1, 1, 1, 1))
LONG = ((0, 1000000),)


def random_caller(mixer):
    gaps = (mixer.randrange(1, 6), mixer.randrange(1, 4), mixer.randrange(3), mixer.randrange(1, 30))
    plan = (gaps, mixer.randrange(1, 9), mixer.choice((0, 3, 10, 40, 1000)))
    cap = mixer.randrange(12)
    purse = (mixer.randrange(5), mixer.randrange(1, 5), cap, mixer.randrange(cap + 1))
    if mixer.randrange(3) == 0:
        purse = RICH
    rest = mixer.randrange(1, 6)
    return plan, purse, (mixer.randrange(1, 6), rest, mixer.randrange(1, 4), rest + mixer.randrange(12), mixer.randrange(1, 4))


def random_story(mixer, span):
    return story_of([mixer.randrange(span) for _ in range(mixer.randrange(span * 2))])


def beat_by_beat(caller, begins, silent):
    """The standing ahead of each beat, and the events of each, straight out of point 7.2's words.

    begins tells how many askings begin at each beat; it goes on until nobody waits behind the last of them.
    """
    (gaps, knocks, time), purse, gate = caller
    kept, door = Purse(purse), Gate(gate)
    waiting, begun, beat, steps = {}, 0, 0, []
    while beat < len(begins) or waiting:
        due = sorted(number for number, (at, _, _) in waiting.items() if at == beat)
        fresh = list(range(begun, begun + (begins[beat] if beat < len(begins) else 0)))
        events = []
        for number in due + fresh:
            if number in fresh:
                kept.ask()
                begun += 1
                begin, tries = beat, 0
            else:
                _, begin, tries = waiting.pop(number)
            word = "held"
            if door.come(beat):
                door.hear(beat, not silent(beat))
                word = "silent" if silent(beat) else "served"
            what = None
            if word != "served":
                tries += 1
                what = beat + gap_at(gaps, tries)
                if tries == knocks:
                    what = "knocks"
                elif what > begin + time:
                    what = "time"
                elif not kept.knock():
                    what = "purse"
                else:
                    waiting[number] = (what, begin, tries)
            events.append((number, word, what))
        beat += 1
        rows = tuple(sorted((at, number, begin, tries) for number, (at, begin, tries) in waiting.items()))
        steps.append(((beat, rows, kept.held(), door.stands(), begun), tuple(events)))
    return steps


def begins_of(askings):
    return [askings.count(beat) for beat in range(askings[-1] + 1)] if askings else []


def gone_beat_by_beat(caller, askings, story):
    steps = beat_by_beat(caller, begins_of(askings), lambda beat: silent_at(story, beat))
    events = [(beat,) + event for beat, (_, each) in enumerate(steps) for event in each]
    ends = []
    for number in range(len(askings)):
        beat, _, word, what = [event for event in events if event[1] == number][-1]
        ends.append(("served", beat) if word == "served" else ("lost", beat, what))
    return tuple(events), tuple(ends)


def samples(seed, many):
    mixer = random.Random(seed)
    for _ in range(many):
        span = mixer.choice((1, 6, 25, 60))
        askings = tuple(sorted(mixer.randrange(span) for _ in range(mixer.randrange(13))))
        yield random_caller(mixer), askings, random_story(mixer, span + 30)


class CallerGood(unittest.TestCase):
    def test_edges(self):
        plan, purse, gate = CALLER
        for caller in (CALLER, GREATEST, LEAST, ((EACH, 200, 1000), RICH, WIDE)):
            self.assertIs(caller_good(caller), True, caller)
        for thing in (
            ((SLOW, 4, 1001), purse, gate), ((SLOW, 4, 400000), purse, gate), ((SLOW, 0, 5), purse, gate),
            ((SLOW, 201, 5), purse, gate), ((SLOW, 4, -1), purse, gate), (((0, 1, 0, 1), 4, 5), purse, gate),
            (plan, (2, 3, 7, 8), gate), (plan, (2, 0, 7, 4), gate), (plan, purse, (0, 4, 2, 10, 2)), (plan, purse, (2, 4, 2, 3, 2)),
            (plan, gate, purse), (purse, plan, gate), (plan, purse), (plan, purse, gate, gate), [plan, purse, gate], plan, (),
            (plan, list(purse), gate), ((SLOW, True, 5), purse, gate), ((SLOW, 4, False), purse, gate), ((SLOW, 4, HUGE), purse, gate),
        ):
            self.assertIs(asked_fairly(self, caller_good, thing), False, thing)

    def test_whatever(self):
        for thing in whatever():
            self.assertIs(asked_fairly(self, caller_good, thing), False, thing)

    def test_spoiled(self):
        for thing in spoiled(((EACH, 2, 2), (2, 2, 2, 2), (2, 2, 2, 2, 2))):
            self.assertIs(asked_fairly(self, caller_good, thing), False, thing)

    def test_first_of(self):
        self.assertEqual(first_of(CALLER), (0, (), 4, ("open", 0), 0))
        self.assertEqual(first_of(GREATEST), (0, (), 10000, ("open", 0), 0))
        self.assertEqual(first_of(LEAST), (0, (), 0, ("open", 0), 0))


class Stepped(unittest.TestCase):
    def walk(self, caller, steps):
        """Go steps (sound, many, wanted events), and tell the standing behind them."""
        standing = first_of(caller)
        for sound, many, wanted in steps:
            standing, events = asked_fairly(self, stepped, caller, standing, sound, many)
            self.assertEqual(events, wanted)
        return standing

    def test_served_at_once(self):
        self.assertEqual(self.walk(CALLER, [(True, 0, ())]), (1, (), 4, ("open", 0), 0))
        events = ((0, "served", None), (1, "served", None))
        self.assertEqual(self.walk(CALLER, [(True, 2, events)]), (1, (), 7, ("open", 0), 2))
        self.assertEqual(self.walk(CALLER, [(True, 2, events), (True, 1, ((2, "served", None),))]), (2, (), 7, ("open", 0), 3))

    def test_silent_then_held_then_without_coins(self):
        # Each puts 2 in and pays 3: 4 coins are enough for all three, 2 for the first two alone.
        events = ((0, "silent", 3), (1, "silent", 3), (2, "held", 3))
        waiting = ((3, 0, 0, 1), (3, 1, 0, 1), (3, 2, 0, 1))
        self.assertEqual(self.walk(CALLER, [(False, 3, events)]), (1, waiting, 1, ("shut", 4, 4), 3))
        poor = (CALLER[0], (2, 3, 7, 2), CALLER[2])
        events = events[:2] + ((2, "held", "purse"),)
        self.assertEqual(self.walk(poor, [(False, 3, events)]), (1, waiting[:2], 2, ("shut", 4, 4), 3))

    def test_those_that_wait_try_ahead_of_those_that_begin(self):
        caller = ((EACH, 3, 9), (0, 1, 2, 2), (20, 1, 1, 1, 1))
        # The one that waits pays with the last coin.
        standing = self.walk(caller, [
            (False, 1, ((0, "silent", 1),)), (False, 1, ((0, "silent", 2), (1, "silent", "purse"))),
            (False, 0, ((0, "silent", "knocks"),)),
        ])
        self.assertEqual(standing, (3, (), 0, ("open", 4), 2))

    def test_parts_are_put_in_ahead_of_each_try(self):
        caller = ((EACH, 2, 9), (1, 2, 2, 0), WIDE)
        # The first two parts pay for the second's further try; the third's alone doesn't pay.
        standing = self.walk(caller, [(False, 3, ((0, "silent", "purse"), (1, "silent", 1), (2, "silent", "purse")))])
        self.assertEqual(standing, (1, ((1, 1, 0, 1),), 1, ("open", 3), 3))

    def test_due_ones_try_by_their_numbers(self):
        caller = (((2, 1, 0, 9), 4, 50), RICH, WIDE)
        standing = self.walk(caller, [
            (False, 2, ((0, "silent", 2), (1, "silent", 2))), (False, 1, ((2, "silent", 3),)),
            (False, 1, ((0, "silent", 4), (1, "silent", 4), (3, "silent", 4))),
        ])
        self.assertEqual(standing[1], ((3, 2, 1, 1), (4, 0, 0, 2), (4, 1, 0, 2), (4, 3, 2, 1)))

    def test_waiting_is_told_by_the_beats_that_are_due(self):
        caller = (((1, 3, 0, 9), 4, 50), RICH, WIDE)
        standing = self.walk(caller, [
            (False, 1, ((0, "silent", 1),)), (False, 1, ((0, "silent", 4), (1, "silent", 2))),
        ])
        self.assertEqual(standing[1], ((2, 1, 1, 1), (4, 0, 0, 2)))

    def test_knocks_ahead_of_time_ahead_of_purse(self):
        for knocks, time, purse, wanted in (
            (1, 0, EMPTY, "knocks"), (1, 9, RICH, "knocks"), (2, 0, EMPTY, "time"), (2, 2, RICH, "time"), (2, 3, EMPTY, "purse"),
            (2, 3, RICH, 3), (2, 9, (0, 5, 9, 4), "purse"), (2, 9, (0, 5, 9, 5), 3), (2, 9, (1, 5, 9, 4), 3),
        ):
            for gate, ahead in ((WIDE, "silent"), (SHY, "held")):
                caller = ((SLOW, knocks, time), purse, gate)
                standing = first_of(caller)
                if ahead == "held":
                    standing = standing[:3] + (("shut", 7, 4),) + standing[4:]
                _, events = stepped(caller, standing, ahead == "held", 1)
                self.assertEqual(events, ((0, ahead, wanted),), (knocks, time, purse))

    def test_a_held_try_counts(self):
        caller = ((EACH, 3, 99), RICH, (1, 50, 1, 50, 1))
        standing = self.walk(caller, [
            (False, 1, ((0, "silent", 1),)), (True, 0, ((0, "held", 2),)), (True, 1, ((0, "held", "knocks"), (1, "held", 3))),
        ])
        self.assertEqual(standing, (3, ((3, 1, 2, 1),), 9997, ("shut", 50, 50), 2))

    def test_the_gate_hears_each_knock(self):
        caller = ((EACH, 1, 0), RICH, (1, 2, 2, 9, 2))
        standing = self.walk(caller, [
            (False, 2, ((0, "silent", "knocks"), (1, "held", "knocks"))), (True, 1, ((2, "held", "knocks"),)),
            (False, 2, ((3, "silent", "knocks"), (4, "held", "knocks"))),
        ])
        self.assertEqual(standing, (3, (), 10000, ("shut", 6, 4), 5))
        standing = stepped(caller, (6,) + standing[1:], True, 1)[0]
        self.assertEqual(standing, (7, (), 10000, ("trying", 1, 4), 6))
        standing, events = stepped(caller, standing, True, 3)
        self.assertEqual((standing, [word for _, word, _ in events]), ((8, (), 10000, ("open", 0), 9), ["served"] * 3))

    def test_twenty_begin(self):
        caller = ((EACH, 5, 99), (1, 2, 10, 10), (7, 3, 1, 3, 1))
        standing, events = stepped(caller, first_of(caller), False, 20)
        self.assertEqual([number for number, _, _ in events], list(range(20)))
        self.assertEqual([word for _, word, _ in events], ["silent"] * 7 + ["held"] * 13)
        self.assertEqual(standing[4], 20)
        self.assertEqual(((standing, events),), tuple(beat_by_beat(caller, [20], lambda beat: True)[:1]))

    def test_beat_by_beat(self):
        mixer = random.Random(72)
        for _ in range(250):
            caller = random_caller(mixer)
            begins = [mixer.choice((0, 0, 1, 2, 5)) for _ in range(mixer.randrange(1, 15))]
            silent = [mixer.randrange(4) > 0 for _ in range(3000)]
            standing = first_of(caller)
            for beat, wanted in enumerate(beat_by_beat(caller, begins, lambda beat: silent[beat])):
                many = begins[beat] if beat < len(begins) else 0
                told = asked_fairly(self, stepped, caller, standing, not silent[beat], many)
                self.assertEqual(repr(told), repr(wanted))
                standing = told[0]

    def test_at_the_last_beat(self):
        standing = (1000000, (), 4, ("open", 0), 7)
        self.assertEqual(stepped(CALLER, standing, True, 1), ((1000001, (), 6, ("open", 0), 8), ((7, "served", None),)))


class Gone(unittest.TestCase):
    def test_named_ones(self):
        self.assertEqual(gone(CALLER, (), LONG), ((), ()))
        self.assertEqual(gone(CALLER, (5,), ()), (((5, 0, "served", None),), (("served", 5),)))
        self.assertEqual(gone(CALLER, (0, 0), ((0, 2),)), (
            ((0, 0, "silent", 3), (0, 1, "silent", 3), (3, 0, "held", "purse"), (3, 1, "held", "purse")),
            (("lost", 3, "purse"), ("lost", 3, "purse")),
        ))
        caller = (CALLER[0], RICH, CALLER[2])
        self.assertEqual(gone(caller, (0, 0), ((0, 2),)), (
            ((0, 0, "silent", 3), (0, 1, "silent", 3), (3, 0, "held", 10), (3, 1, "held", 10), (10, 0, "served", None),
             (10, 1, "served", None)),
            (("served", 10), ("served", 10)),
        ))
        self.assertEqual(gone(((SLOW, 4, 9), RICH, WIDE), (7, 9), LONG)[1], (("lost", 10, "time"), ("lost", 12, "time")))
        self.assertEqual(gone(((SLOW, 2, 9), RICH, WIDE), (7, 9), LONG)[1], (("lost", 10, "knocks"), ("lost", 12, "knocks")))

    def test_beat_by_beat(self):
        for caller, askings, story in samples(73, 400):
            self.assertEqual(repr(asked_fairly(self, gone, caller, askings, story)), repr(gone_beat_by_beat(caller, askings, story)))

    def test_great_ones(self):
        for caller, askings, story in (
            (GREATEST, (0, 500, 1000), LONG), (((EACH, 200, 1000), RICH, WIDE), (1000,) * 12, LONG),
            (((EACH, 200, 1000), RICH, (20, 1, 1, 1, 10)), tuple(range(0, 1000, 90)), ((0, 700),)),
            ((((1000, 1, 0, 1000), 2, 1000), RICH, WIDE), (0, 1000), ((0, 2000),)), (LEAST, (0,) * 12, LONG),
            ((((1, 2, 0, 1000), 200, 1000), RICH, (1, 1, 10, 1000, 3)), (0, 0, 1, 3, 999), ((0, 900), (999, 1001))),
        ):
            self.assertEqual(gone(caller, askings, story), gone_beat_by_beat(caller, askings, story))

    def test_an_open_gate_and_a_full_purse_leave_the_runs(self):
        mixer = random.Random(731)
        for _ in range(100):
            plan, _, _ = random_caller(mixer)
            begin, story = mixer.randrange(20), random_story(mixer, 50)
            beats, end = run_of(plan, story, begin)
            events, ends = gone((plan, RICH, WIDE), (begin,), story)
            self.assertEqual(tuple(event[0] for event in events), beats)
            self.assertEqual(ends, (("served", beats[-1]) if end == "served" else ("lost", beats[-1], end),))

    def test_gone_good(self):
        asked = list(samples(74, 25))
        told = [gone(*question) for question in asked]
        for question, thing in itertools.product(asked, told):
            self.assertIs(asked_fairly(self, gone_good, *question, thing), thing == gone(*question))

    def test_gone_good_of_near_ones(self):
        caller, askings, story = ((EACH, 3, 9), RICH, WIDE), (0, 1), ((0, 1),)
        right = (((0, 0, "silent", 1), (1, 0, "served", None), (1, 1, "served", None)), (("served", 1), ("served", 1)))
        self.assertIs(gone_good(caller, askings, story, right), True)
        for thing in (
            list(right), (list(right[0]), right[1]), (right[0], list(right[1])), right[::-1], right[:1], right + ((),), (right,),
            (right[0][:2], right[1]), (right[0], right[1][:1]), (right[0][::-1], right[1]), (right[0], (("served", 1), ("lost", 1))),
            (((False, 0, "silent", 1),) + right[0][1:], right[1]), (((0, False, "silent", 1),) + right[0][1:], right[1]),
            (((0, 0, "silent", True),) + right[0][1:], right[1]), (((0, 0, "held", 1),) + right[0][1:], right[1]),
            (([0, 0, "silent", 1],) + right[0][1:], right[1]), (right[0], (("served", True), ("served", 1))),
            (right[0], (["served", 1], ("served", 1))), (right[0][:1] + ((1, 0, "served", False),) + right[0][2:], right[1]),
            (right[0][:1] + ((1, 0, "served"),) + right[0][2:], right[1]), ((), ()), (), None,
        ):
            self.assertIs(asked_fairly(self, gone_good, caller, askings, story, thing), False, thing)

    def test_gone_good_of_whatever(self):
        for thing in whatever() + [((), [])]:
            self.assertIs(asked_fairly(self, gone_good, CALLER, (0, 1), LONG, thing), False, thing)
            self.assertIs(asked_fairly(self, gone_good, CALLER, (), LONG, thing), False, thing)
        self.assertIs(gone_good(CALLER, (), LONG, ((), ())), True)

    def test_gone_good_of_spoiled(self):
        for caller, askings, story in (
            (CALLER, (), ()), (CALLER, (0,), ()), (((EACH, 2, 9), RICH, WIDE), (0, 0), ((0, 1),)), (LEAST, (0, 1), LONG),
        ):
            right = gone(caller, askings, story)
            # None is no wrong part where it is what is told.
            for thing in spoiled(right):
                self.assertIs(asked_fairly(self, gone_good, caller, askings, story, thing), repr(thing) == repr(right), thing)


class Bounds(unittest.TestCase):
    def test_most_tries_named(self):
        plan, purse, gate = CALLER
        for caller, many, wanted in (
            (CALLER, 0, 0), (CALLER, 1, 3), (CALLER, 2, 4), (CALLER, 10, 18), (LEAST, 1000000, 1000000),
            ((plan, RICH, gate), 0, 0), ((plan, RICH, gate), 5, 20), ((plan, RICH, gate), 3333, 13332),
            ((plan, RICH, gate), 3334, 13334), ((plan, (1000, 1, 10000, 0), gate), 1000000, 4000000),
            ((plan, (1, 1000, 10000, 999), gate), 1000000, 1001000), ((plan, (1, 1000, 10000, 1000), gate), 1000000, 1001001),
            (GREATEST, 1000000, 2000010),
        ):
            self.assertEqual(most_tries(caller, many), wanted, (caller, many))

    def test_no_askings_make_more_tries(self):
        for caller, askings, story in samples(741, 400):
            for each in (story, LONG):
                events = gone(caller, askings, each)[0]
                self.assertLessEqual(len(events), most_tries(caller, len(askings)))

    def test_most_tries_is_reached(self):
        caller = ((EACH, 5, 99), RICH, WIDE)
        self.assertEqual(len(gone(caller, (0,) * 12, LONG)[0]), most_tries(caller, 12))
        caller = ((EACH, 5, 99), (0, 1, 9, 9), WIDE)
        self.assertEqual(len(gone(caller, (0,) * 12, LONG)[0]), most_tries(caller, 12))

    def test_served_from_named(self):
        plan, purse, gate = CALLER
        self.assertEqual(served_from(CALLER, ()), 0)
        self.assertEqual(served_from(CALLER, ((0, 1),)), 10)
        self.assertEqual(served_from(CALLER, ((0, 1), (5, 20))), 29)
        self.assertEqual(served_from(GREATEST, ()), 0)
        self.assertEqual(served_from(GREATEST, LONG), 1000999)
        self.assertEqual(served_from(LEAST, ((3, 7),)), 7)

    def test_each_try_is_served_from_there_on(self):
        for caller, askings, story in samples(75, 300):
            calm = served_from(caller, story)
            late = tuple(calm + at for at in (0, 0, 1, 7, 40))
            askings = askings[:7] + late
            if list(askings) == sorted(askings):
                events, ends = gone(caller, askings, story)
                for beat, number, word, what in events:
                    if beat >= calm:
                        self.assertEqual((word, what), ("served", None))
                self.assertEqual(ends[-5:], tuple(("served", beat) for beat in late))

    def test_one_beat_ahead_it_may_be_held(self):
        caller, story = ((EACH, 1, 0), RICH, (1, 5, 1, 5, 1)), ((0, 4),)
        calm = served_from(caller, story)
        self.assertEqual(calm, 8)
        self.assertEqual(gone(caller, (3, calm - 1, calm), story)[1], (("lost", 3, "knocks"), ("lost", 7, "knocks"), ("served", 8)))


class Together(unittest.TestCase):
    def test_of_all_goings(self):
        for caller, askings, story in samples(76, 300):
            (gaps, knocks, time), purse, gate = caller
            events, ends = gone(caller, askings, story)
            for number, begin in enumerate(askings):
                beats = [event[0] for event in events if event[1] == number]
                self.assertEqual(beats[0], begin)
                self.assertLessEqual(beats[-1], begin + time)
                self.assertLessEqual(len(beats), knocks)
                self.assertEqual([then - ahead for ahead, then in zip(beats, beats[1:])],
                                 [gap_at(gaps, k) for k in range(1, len(beats))])
            self.assertEqual(len(ends), len(askings))
            self.assertEqual([event[0] for event in events], sorted(event[0] for event in events))

    def test_of_all_standings(self):
        mixer = random.Random(77)
        for _ in range(150):
            caller = random_caller(mixer)
            standing = first_of(caller)
            for _ in range(40):
                ahead = standing
                standing, events = stepped(caller, ahead, mixer.randrange(3) == 0, mixer.choice((0, 0, 0, 1, 3)))
                beat, waiting, coins, at_gate, begun = standing
                self.assertEqual(beat, ahead[0] + 1)
                self.assertTrue(0 <= coins <= caller[1][2])
                self.assertIs(standing_good(caller[2], at_gate), True)
                self.assertEqual(list(waiting), sorted(waiting))
                self.assertTrue(all(0 <= number < begun for number, _, _ in events))
                self.assertTrue(all(due >= beat > begin and number < begun for due, number, begin, tries in waiting))

    def test_no_more_knocks_than_the_gate_lets(self):
        for caller, askings, _ in samples(78, 200):
            events = gone(caller, askings, LONG)[0]
            knocks = [event for event in events if event[2] != "held"]
            if events:
                self.assertLessEqual(len(knocks), most_let(caller[2], events[-1][0] + 1))

    def test_a_house_that_is_healed_serves_who_asks_later(self):
        for caller, _, story in samples(79, 100):
            begin = healed_at(story) + caller[2][3]
            self.assertEqual(gone(caller, (0, begin), story)[1][1], ("served", begin))


if __name__ == "__main__":
    unittest.main()
