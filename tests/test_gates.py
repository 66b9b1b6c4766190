"""Points 5.1 to 5.7."""

import itertools
import random
import unittest

from knockpurse.errors import NoNumber, NoStep, TooGreat
from knockpurse.gates import (
    Gate, come_along, gate_good, heard, lets, most_let, open_from, row_for, standing_good,
)
from knockpurse.stories import silent_at, story_at, story_of
from tests.things import GREAT, HUGE, asked_fairly, refusal, spoiled, whatever

LAST = 1000000
ONE = (1, 1, 1, 1, 1)
GREATEST = (20, 1000, 10, 1000, 10)
GATE = (3, 4, 2, 10, 2)
SMALL = [
    (fails, rest, times, most, trials)
    for fails in (1, 2, 3)
    for rest, most in ((1, 1), (1, 4), (2, 3), (3, 3), (2, 9))
    for times in (1, 2, 3)
    for trials in (1, 2, 3)
]
GATES = SMALL + [
    GATE, GREATEST, (20, 1, 1, 1, 10), (1, 1, 10, 1000, 1), (7, 3, 2, 1000, 4), (1, 999, 1, 1000, 1), (1, 999, 2, 1000, 1),
    (2, 37, 3, 900, 5), (20, 1, 1, 1000, 1),
]


def is_beat(thing):
    return isinstance(thing, int) and not isinstance(thing, bool) and 0 <= thing <= LAST


def coming_by_coming(gate, silent, beats):
    """What come_along tells, straight out of the words of 5.2 and 5.3, with numbers that change in place of standings."""
    fails, rest, times, most, trials = gate
    word, bad, good, until, now = "open", 0, 0, None, None
    words = []
    for beat in beats:
        if word == "shut":
            if beat < until:
                words.append("held")
                continue
            word, good = "trying", 0
        if not silent(beat):
            words.append("answered")
            if word == "open":
                bad = 0
            else:
                good += 1
                if good == trials:
                    word, bad = "open", 0
            continue
        words.append("silent")
        if word == "open":
            bad += 1
            if bad == fails:
                word, until, now = "shut", beat + rest, rest
        else:
            now = min(now * times, most)
            word, until = "shut", beat + now
    standing = {"open": ("open", bad), "shut": ("shut", until, now), "trying": ("trying", good, now)}[word]
    return tuple(words), standing


def most_of_all_comings(gate, standing, first, n):
    """The most knocks that come through in the beats from first on, n of them, over all comings at a silent house."""
    best = {standing: 0}
    for beat in range(first, first + n):
        ahead = list(best.items())
        while ahead:
            at, many = ahead.pop()
            through, then = lets(gate, at, beat)
            if through:
                then, many = heard(gate, then, beat, False), many + 1
            if best.get(then, -1) < many:
                best[then] = many
                ahead.append((then, many))
    return max(best.values())


def beat_by_beat(gate, n):
    """The beats of the knocks that are let through where more come at each beat than can be let through."""
    fails, rest, times, most, trials = gate
    knocks, until, now = [], 0, None
    for beat in range(n):
        if beat == 0:
            knocks += [0] * fails
            until, now = rest, rest
        elif beat == until:
            knocks.append(beat)
            now = min(now * times, most)
            until = beat + now
    return knocks


def all_standings(gate, last_until):
    fails, rest, times, most, trials = gate
    return (
        [("open", bad) for bad in range(fails)]
        + [("shut", until, now) for until in range(last_until + 1) for now in range(rest, most + 1)]
        + [("trying", good, now) for good in range(trials) for now in range(rest, most + 1)]
    )


class GateGood(unittest.TestCase):
    def test_edges(self):
        for gate, wanted in (
            (ONE, True), (GREATEST, True), ((0, 1, 1, 1, 1), False), ((21, 1, 1, 1, 1), False), ((1, 0, 1, 1, 1), False),
            ((1, 1000, 1, 1000, 1), True), ((1, 1001, 1, 1001, 1), False), ((1, 1, 0, 1, 1), False), ((1, 1, 10, 1, 1), True),
            ((1, 1, 11, 1, 1), False), ((1, 5, 1, 5, 1), True), ((1, 5, 1, 4, 1), False), ((1, 1, 1, 0, 1), False),
            ((1, 5, 1, 1000, 1), True), ((1, 5, 1, 1001, 1), False), ((1, 1, 1, 1, 0), False), ((1, 1, 1, 1, 10), True),
            ((1, 1, 1, 1, 11), False), ((20, 1, 1, 1, 1), True),
        ):
            self.assertIs(gate_good(gate), wanted, gate)

    def test_whatever(self):
        for thing in whatever():
            self.assertIs(asked_fairly(self, gate_good, thing), False, thing)

    def test_spoiled(self):
        for thing in spoiled((2, 2, 2, 2, 2)):
            self.assertIs(asked_fairly(self, gate_good, thing), False, thing)
        for thing in ((1, 1, 1, 1), (), list(ONE), (True, 1, 1, 1, 1), (1, True, 1, 1, 1), (1, 1, 1, True, 1), (True,) * 5):
            self.assertIs(gate_good(thing), False, thing)


class StandingGood(unittest.TestCase):
    def test_edges(self):
        for standing, wanted in (
            (("open", 0), True), (("open", 2), True), (("open", 3), False), (("open", -1), False),
            (("shut", 0, 4), True), (("shut", 1001000, 10), True), (("shut", 1001001, 10), False), (("shut", -1, 4), False),
            (("shut", 5, 3), False), (("shut", 5, 11), False), (("shut", 5, 7), True),
            (("trying", 0, 4), True), (("trying", 1, 10), True), (("trying", 2, 4), False), (("trying", -1, 4), False),
            (("trying", 0, 3), False), (("trying", 0, 11), False),
            (("open", 0, 4), False), (("open",), False), (("shut", 5), False), (("shut", 5, 4, 0), False), (("trying", 1), False),
            (("trying", 0, 4, 4), False), (("closed", 0), False), (("Open", 0), False), ((0, "open"), False), ((), False),
            (["open", 0], False), ("open", False), (("open", True), False), (("open", False), False), (("shut", True, 4), False),
            (("trying", True, 4), False), (("trying", False, 4), False), (("open", "0"), False), (("", 0), False),
            ((["open"], 0), False), (("open", HUGE), False), (("shut", HUGE, 4), False), ((("open", 0),), False),
        ):
            self.assertIs(asked_fairly(self, standing_good, GATE, standing), wanted, standing)

    def test_edges_of_other_gates(self):
        self.assertIs(standing_good(ONE, ("open", 0)), True)
        self.assertIs(standing_good(ONE, ("open", 1)), False)
        self.assertIs(standing_good(ONE, ("trying", 0, 1)), True)
        self.assertIs(standing_good(ONE, ("trying", 1, 1)), False)
        self.assertIs(standing_good(ONE, ("trying", 0, True)), False)
        self.assertIs(standing_good(ONE, ("shut", 0, 2)), False)
        self.assertIs(standing_good(GREATEST, ("open", 19)), True)
        self.assertIs(standing_good(GREATEST, ("open", 20)), False)
        self.assertIs(standing_good(GREATEST, ("trying", 9, 1000)), True)
        self.assertIs(standing_good(GREATEST, ("trying", 9, 999)), False)

    def test_whatever(self):
        for gate, thing in itertools.product((ONE, GATE), whatever()):
            self.assertIs(asked_fairly(self, standing_good, gate, thing), False, thing)

    def test_spoiled(self):
        for standing in (("open", 2), ("shut", 5, 4), ("trying", 1, 4)):
            self.assertIs(standing_good(GATE, standing), True)
            for thing in spoiled(standing):
                self.assertIs(asked_fairly(self, standing_good, GATE, thing), False, thing)


class LetsAndHeard(unittest.TestCase):
    def test_lets(self):
        for standing, beat, wanted in (
            (("open", 0), 0, (True, ("open", 0))), (("open", 2), LAST, (True, ("open", 2))),
            (("trying", 1, 8), 5, (True, ("trying", 1, 8))), (("trying", 0, 4), 0, (True, ("trying", 0, 4))),
            (("shut", 9, 8), 8, (False, ("shut", 9, 8))), (("shut", 9, 8), 0, (False, ("shut", 9, 8))),
            (("shut", 9, 8), 9, (True, ("trying", 0, 8))), (("shut", 9, 8), 10, (True, ("trying", 0, 8))),
            (("shut", 0, 4), 0, (True, ("trying", 0, 4))), (("shut", LAST + 1000, 4), LAST, (False, ("shut", LAST + 1000, 4))),
            (("shut", LAST, 4), LAST, (True, ("trying", 0, 4))),
        ):
            self.assertEqual(repr(lets(GATE, standing, beat)), repr(wanted))

    def test_heard(self):
        for gate, standing, beat, answered, wanted in (
            (GATE, ("open", 0), 7, True, ("open", 0)), (GATE, ("open", 2), 7, True, ("open", 0)),
            (GATE, ("open", 0), 7, False, ("open", 1)), (GATE, ("open", 1), 7, False, ("open", 2)),
            (GATE, ("open", 2), 7, False, ("shut", 11, 4)), (ONE, ("open", 0), 0, False, ("shut", 1, 1)),
            (GATE, ("trying", 0, 4), 7, True, ("trying", 1, 4)), (GATE, ("trying", 1, 4), 7, True, ("open", 0)),
            (GATE, ("trying", 0, 4), 7, False, ("shut", 15, 8)), (GATE, ("trying", 1, 8), 7, False, ("shut", 17, 10)),
            (GATE, ("trying", 1, 5), 7, False, ("shut", 17, 10)), (GATE, ("trying", 0, 10), 7, False, ("shut", 17, 10)),
            (ONE, ("trying", 0, 1), LAST, True, ("open", 0)), (ONE, ("trying", 0, 1), LAST, False, ("shut", LAST + 1, 1)),
            (GREATEST, ("open", 19), LAST, False, ("shut", LAST + 1000, 1000)),
            (GREATEST, ("trying", 8, 1000), 0, True, ("trying", 9, 1000)), (GREATEST, ("trying", 9, 1000), 0, True, ("open", 0)),
        ):
            self.assertEqual(repr(heard(gate, standing, beat, answered)), repr(wanted))

    def test_heard_at_shut_is_refused(self):
        for beat, answered in itertools.product((0, 8, 9, 10, LAST), (True, False)):
            self.assertEqual(refusal(self, NoStep, heard, GATE, ("shut", 9, 8), beat, answered), {})
            self.assertEqual(refusal(self, NoStep, heard, ONE, ("shut", 0, 1), beat, answered), {})

    def test_standings_lead_to_standings(self):
        for gate in SMALL:
            for standing, beat in itertools.product(all_standings(gate, 3), (0, 1, 2, 3, 4, LAST)):
                self.assertIs(standing_good(gate, standing), True)
                through, then = lets(gate, standing, beat)
                self.assertIs(standing_good(gate, then), True)
                self.assertIs(through, then[0] != "shut")
                for answered in (True, False) if through else ():
                    self.assertIs(standing_good(gate, heard(gate, then, beat, answered)), True)


class ComeAlong(unittest.TestCase):
    def test_named_ones(self):
        story = ((0, 9),)
        for beats, wanted in (
            ([], ((), ("open", 0))),
            ([0, 0], (("silent", "silent"), ("open", 2))),
            ([0, 1, 2, 3], (("silent",) * 3 + ("held",), ("shut", 6, 4))),
            ([0, 1, 2, 5, 6], (("silent",) * 3 + ("held", "silent"), ("shut", 14, 8))),
            ([0, 1, 2, 6, 13, 14], (("silent",) * 4 + ("held", "answered"), ("trying", 1, 8))),
            ([0, 1, 2, 6, 14, 14, 14], (("silent",) * 4 + ("answered",) * 3, ("open", 0))),
            ([0, 1, 9, 9], (("silent", "silent", "answered", "answered"), ("open", 0))),
            ([8, 8, 8, 8], (("silent",) * 3 + ("held",), ("shut", 12, 4))),
            ([LAST], (("answered",), ("open", 0))),
        ):
            self.assertEqual(asked_fairly(self, come_along, GATE, story, beats), wanted, beats)

    def test_coming_by_coming(self):
        mixer = random.Random(54)
        for gate in GATES:
            for span, many in ((6, 9), (25, 40), (25, 200), (3000, 200)):
                story = story_of([mixer.randrange(span) for _ in range(min(span * 2, 190))])
                beats = sorted(mixer.randrange(span + 9) for _ in range(many))
                wanted = coming_by_coming(gate, lambda beat: silent_at(story, beat), beats)
                told = come_along(gate, story, beats)
                self.assertEqual(told, wanted)
                self.assertIs(standing_good(gate, told[1]), True)
                self.assertEqual(len(told[0]), many)

    def test_at_the_last_beats(self):
        story = ((LAST - 5, LAST),)
        self.assertEqual(
            come_along(GREATEST, story, [LAST - 1] * 21 + [LAST] * 2), (("silent",) * 20 + ("held",) * 3, ("shut", LAST + 999, 1000))
        )


class MostLet(unittest.TestCase):
    def test_named_ones(self):
        for gate, n, wanted in (
            (GATE, 0, 0), (GATE, 1, 3), (GATE, 4, 3), (GATE, 5, 4), (GATE, 12, 4), (GATE, 13, 5), (GATE, 22, 5), (GATE, 23, 6),
            (GATE, 33, 7), (ONE, 0, 0), (ONE, 1, 1), (ONE, 2, 2), (ONE, LAST, LAST), (GREATEST, 1, 20), (GREATEST, 1000, 20),
            (GREATEST, 1001, 21), ((1, 999, 2, 1000, 1), 1000, 2), ((1, 999, 2, 1000, 1), 1999, 2), ((1, 999, 2, 1000, 1), 2000, 3),
        ):
            self.assertEqual(most_let(gate, n), wanted, (gate, n))

    def test_over_all_comings(self):
        for gate, n in itertools.product(SMALL, (0, 1, 2, 3, 4, 7, 10, 14)):
            self.assertEqual(most_let(gate, n), most_of_all_comings(gate, ("open", 0), 0, n), (gate, n))

    def test_beat_by_beat(self):
        for gate in GATES:
            knocks = beat_by_beat(gate, 9000)
            for n in list(range(40)) + [999, 1000, 1001, 1002, 2000, 2001, 7777, 9000]:
                self.assertEqual(most_let(gate, n), len([beat for beat in knocks if beat < n]), (gate, n))

    def test_numbers_of_thirty_figures(self):
        self.assertEqual(most_let(ONE, GREAT), GREAT)
        self.assertEqual(most_let((20, 7, 1, 900, 3), GREAT), 20 + (GREAT - 1) // 7)
        self.assertEqual(most_let(GREATEST, GREAT), 20 + (GREAT - 1) // 1000)
        for gate in GATES:
            # Within 9,000 beats the rests of each of these have become as long as they ever do.
            knocks = beat_by_beat(gate, 9000)
            rest = knocks[-1] - knocks[-2]
            self.assertEqual(rest, knocks[-2] - knocks[-3])
            self.assertEqual(most_let(gate, GREAT), len(knocks) + (GREAT - 1 - knocks[-1]) // rest, gate)

    def test_row_for(self):
        for gate in GATES:
            for n in (0, 1, 2, 5, 9, 40, 150, 5000, LAST):
                many = most_let(gate, n)
                if many <= 200:
                    beats = row_for(gate, n)
                    self.assertIs(beats.__class__, list)
                    self.assertLessEqual(len(beats), 200)
                    self.assertEqual(beats, sorted(beats))
                    self.assertTrue(all(is_beat(beat) and beat < n for beat in beats))
                    words, _ = come_along(gate, ((0, LAST),), beats)
                    self.assertEqual(words.count("silent"), many)
                else:
                    self.assertEqual(refusal(self, TooGreat, row_for, gate, n), {"many": many, "most": 200})

    def test_just_two_hundred_and_more(self):
        self.assertEqual(row_for(GATE, 0), [])
        gate = (20, 1000, 1, 1000, 1)
        for each, n in ((ONE, 200), (gate, 180001), (gate, 181000)):
            self.assertEqual(most_let(each, n), 200)
            beats = row_for(each, n)
            self.assertEqual((len(beats), beats[-1] < n), (200, True))
            self.assertEqual(come_along(each, ((0, LAST),), beats)[0], ("silent",) * 200)
        self.assertEqual(refusal(self, TooGreat, row_for, ONE, 201), {"many": 201, "most": 200})
        self.assertEqual(refusal(self, TooGreat, row_for, gate, 181001), {"many": 201, "most": 200})
        self.assertEqual(refusal(self, TooGreat, row_for, gate, LAST), {"many": 1019, "most": 200})
        self.assertEqual(refusal(self, TooGreat, row_for, ONE, LAST), {"many": LAST, "most": 200})

    def test_the_list_is_the_asker_s_own(self):
        beats = row_for(GATE, 50)
        wanted = list(beats)
        beats.clear()
        self.assertEqual(row_for(GATE, 50), wanted)


class OpenFrom(unittest.TestCase):
    def test_named_ones(self):
        for gate, h, wanted in (
            (GATE, 0, 0), (GATE, 1, 11), (GATE, 100, 110), (ONE, 0, 0), (ONE, 1, 1), (ONE, LAST, LAST), (GREATEST, 0, 0),
            (GREATEST, 1, 1009), (GREATEST, LAST, LAST + 1008), ((1, 1, 1, 1, 10), 1, 10), ((1, 1, 1, 5, 1), 3, 7),
        ):
            self.assertEqual(open_from(gate, h), wanted, (gate, h))

    def test_it_is_reached_at_the_latest(self):
        for gate in SMALL:
            fails, rest, times, most, trials = gate
            if rest == most:
                # One shuts it at the last silent beat; then one comes at each beat.
                h = 5
                last = open_from(gate, h)
                beats = [h - 1] * fails + list(range(h, last + 1))
                self.assertEqual(come_along(gate, ((0, h),), beats)[1][0], "open")
                self.assertNotEqual(come_along(gate, ((0, h),), beats[:-1])[1][0], "open")

    def test_it_opens_and_stays_open(self):
        mixer = random.Random(57)
        for gate in SMALL + [GATE, (1, 2, 3, 20, 4)]:
            for _ in range(12):
                h = mixer.randrange(9)
                story = story_at(mixer.randrange(2 ** h), max(h, 1))
                kept, last = Gate(gate), open_from(gate, h)
                for beat in range(last + 6):
                    for _ in range(mixer.randrange(4) if beat < h else mixer.randrange(1, 4)):
                        if kept.come(beat):
                            kept.hear(beat, not silent_at(story, beat))
                    if beat >= last:
                        self.assertEqual(kept.stands()[0], "open", (gate, story, beat))


class KeptGate(unittest.TestCase):
    def test_deeds(self):
        kept = Gate(GATE)
        self.assertEqual(kept.stands(), ("open", 0))
        for beat in (0, 0, 2):
            self.assertIs(kept.come(beat), True)
            self.assertIsNone(kept.hear(beat, False))
        self.assertEqual(kept.stands(), ("shut", 6, 4))
        self.assertIs(kept.come(5), False)
        self.assertEqual(kept.stands(), ("shut", 6, 4))
        self.assertIs(kept.come(6), True)
        self.assertEqual(kept.stands(), ("trying", 0, 4))
        self.assertIs(kept.come(7), True)
        self.assertIsNone(kept.hear(7, True))
        self.assertEqual(kept.stands(), ("trying", 1, 4))
        kept.hear(7, True)
        self.assertEqual(kept.stands(), ("open", 0))

    def test_as_come_along_tells(self):
        mixer = random.Random(56)
        for gate in GATES:
            story = story_of([mixer.randrange(60) for _ in range(90)])
            beats = sorted(mixer.randrange(70) for _ in range(100))
            kept, words = Gate(gate), []
            for beat in beats:
                word = "held"
                if kept.come(beat):
                    word = "silent" if silent_at(story, beat) else "answered"
                    kept.hear(beat, word == "answered")
                words.append(word)
            self.assertEqual((tuple(words), kept.stands()), come_along(gate, story, beats))

    def test_no_beat_is_refused(self):
        for thing in (-1, LAST + 1, HUGE, -HUGE, GREAT, True, False, None, "0", "", [0], (0,), {0: 0}, [], ()):
            kept = Gate(GATE)
            self.assertEqual(refusal(self, NoNumber, kept.come, thing), {})
            self.assertEqual(refusal(self, NoNumber, kept.hear, thing, False), {})
            self.assertEqual(kept.stands(), ("open", 0))
            self.assertIs(kept.come(0), True)

    def test_whatever(self):
        for thing in whatever():
            kept = Gate(GATE)
            if is_beat(thing):
                self.assertIs(kept.come(thing), True)
                self.assertIsNone(kept.hear(thing, False))
            else:
                refusal(self, NoNumber, kept.come, thing)
                refusal(self, NoNumber, kept.hear, thing, True)

    def test_edges_of_beats(self):
        kept = Gate(GATE)
        self.assertIs(kept.come(0), True)
        self.assertIs(kept.come(LAST), True)
        refusal(self, NoNumber, kept.come, LAST - 1)
        refusal(self, NoNumber, kept.come, 0)
        for _ in range(3):
            kept.hear(LAST, False)
        self.assertEqual(kept.stands(), ("shut", LAST + 4, 4))
        self.assertIs(standing_good(GATE, kept.stands()), True)

    def test_less_than_one_told_before_is_refused(self):
        for tell in (lambda kept: kept.come(9), lambda kept: kept.hear(9, True)):
            kept = Gate(GATE)
            tell(kept)
            self.assertEqual(refusal(self, NoNumber, kept.come, 8), {})
            self.assertEqual(refusal(self, NoNumber, kept.hear, 8, False), {})
            self.assertEqual(kept.stands(), ("open", 0))
            self.assertIs(kept.come(9), True)
            kept.hear(9, False)
            self.assertEqual(kept.stands(), ("open", 1))

    def test_one_that_was_held_was_told_too(self):
        kept = Gate((1, 9, 1, 9, 1))
        kept.hear(0, False)
        self.assertIs(kept.come(5), False)
        refusal(self, NoNumber, kept.come, 4)
        self.assertIs(kept.come(5), False)

    def test_hear_at_shut_is_refused(self):
        kept = Gate((1, 9, 1, 9, 1))
        kept.hear(3, False)
        for beat, answered in itertools.product((3, 11, 12, 13), (True, False)):
            self.assertEqual(refusal(self, NoStep, kept.hear, beat, answered), {})
        self.assertEqual(kept.stands(), ("shut", 12, 9))
        # What was refused wasn't told: beats ahead of it may still come.
        self.assertIs(kept.come(4), False)
        self.assertIs(kept.come(12), True)

    def test_no_number_goes_ahead_of_no_step(self):
        kept = Gate((1, 9, 1, 9, 1))
        kept.hear(3, False)
        for thing in (2, 0, -1, True, None, "3", [3], HUGE):
            self.assertEqual(refusal(self, NoNumber, kept.hear, thing, True), {})
        refusal(self, NoStep, kept.hear, 3, True)

    def test_a_refused_come_is_not_told(self):
        kept = Gate(GATE)
        refusal(self, NoNumber, kept.come, LAST + 1)
        refusal(self, NoNumber, kept.hear, HUGE, True)
        self.assertIs(kept.come(0), True)

    def test_two_gates_have_nothing_in_common(self):
        one, other = Gate(ONE), Gate(ONE)
        one.come(7)
        one.hear(7, False)
        self.assertEqual((one.stands(), other.stands()), (("shut", 8, 1), ("open", 0)))
        self.assertIs(other.come(0), True)
        self.assertEqual(Gate(ONE).stands(), ("open", 0))
        other.hear(1, False)
        self.assertEqual((one.stands(), other.stands()), (("shut", 8, 1), ("shut", 2, 1)))


class Together(unittest.TestCase):
    def test_no_more_knocks_than_most_let_whatever_the_standing(self):
        for gate in SMALL:
            for standing, n in itertools.product(all_standings(gate, 4), (0, 1, 2, 5, 9)):
                self.assertLessEqual(most_of_all_comings(gate, standing, 2, n), most_let(gate, n), (gate, standing, n))

    def test_no_more_knocks_behind_whatever_story(self):
        mixer = random.Random(58)
        for gate in SMALL:
            for _ in range(20):
                first, n = mixer.randrange(15), mixer.randrange(12)
                ahead = [beat for beat in range(first) if mixer.randrange(3)]
                story = story_of(ahead + list(range(first, first + n)))
                beats = sorted(mixer.randrange(first + n + 1) for _ in range(150))
                words = come_along(gate, story, beats)[0]
                through = [beat for beat, word in zip(beats, words) if word != "held" and first <= beat < first + n]
                self.assertLessEqual(len(through), most_let(gate, n))

    def test_never_shut_for_more_than_most_beats(self):
        for gate in SMALL + [GATE]:
            for standing, beat in itertools.product(all_standings(gate, 0), (0, 5, LAST)):
                through, then = lets(gate, standing, beat)
                shut = heard(gate, then, beat, False) if through else then
                if shut[0] == "shut" and shut != standing:
                    self.assertLessEqual(shut[1] - beat, gate[3])
                    self.assertIs(lets(gate, shut, beat + gate[3])[0], True)


if __name__ == "__main__":
    unittest.main()
