"""Points 8.1 to 8.7."""

import copy
import functools
import random
import unittest

from knockpurse.callers import first_of, gone, most_tries, stepped
from knockpurse.stories import healed_at, number_of, silent_many, story_at, story_good
from knockpurse.worst import (
    calm_from, fewest_served, fewest_story, least_silent, losing_story, marks_for, marks_good, more_by, most_knocks, told_of,
    worst_story,
)
from tests.test_callers import EACH, EMPTY, GREATEST, LEAST, RICH, SHY, SLOW, WIDE, beat_by_beat, random_caller
from tests.things import GREAT, HUGE, asked_fairly, spoiled, whatever, wrong_parts

CALLER = ((EACH, 2, 9), (1, 2, 3, 1), (2, 2, 2, 3, 2))
PATIENT = ((EACH, 200, 1000), RICH, WIDE)
ONCE = ((EACH, 1, 0), EMPTY, (1, 5, 1, 5, 1))
GIVEN = [
    (CALLER, (1, 0, 2)), (CALLER, (0,)), (CALLER, (3,)), (CALLER, (3,) * 8), (CALLER, (0,) * 8), (CALLER, (1, 0, 0, 2, 0, 0, 1, 3)),
    (PATIENT, (1, 2)), (PATIENT, (0, 3, 0, 0, 1, 0, 0, 0)), (ONCE, (1,)), (ONCE, (2, 0, 1, 3)), (LEAST, (1,)), (LEAST, (3, 0, 3)),
    (GREATEST, (3,)), (GREATEST, (3,) * 8), (GREATEST, (0, 1, 2, 3)), (((SLOW, 3, 9), (2, 3, 7, 4), SHY), (1, 1, 0, 0, 2)),
    (((EACH, 6, 3), RICH, (1, 1, 10, 1000, 10)), (2, 1, 1, 0, 0, 1)), (((EACH, 6, 0), RICH, WIDE), (1, 0, 2)),
    (((EACH, 6, 9), EMPTY, WIDE), (1, 0, 2)), (((EACH, 3, 9), (1, 3, 4, 0), (20, 1000, 1, 1000, 1)), (3, 3, 3, 3)),
    (((EACH, 200, 1000), (1, 1, 6, 6), (3, 1, 3, 9, 2)), (3, 1, 0, 3, 0)),
]


def samples(seed, many, longest=5):
    mixer = random.Random(seed)
    for _ in range(many):
        yield random_caller(mixer), tuple(mixer.choice((0, 1, 1, 2, 3)) for _ in range(mixer.randrange(1, longest + 1)))


def all_samples(seed, many, longest=5):
    return GIVEN + list(samples(seed, many, longest))


def steps_by_words(caller, beginnings, number):
    """(standing, events) of each beat by the story of a number, straight out of point 7.2's words."""
    return beat_by_beat(caller, list(beginnings), lambda beat: number >> beat & 1 == 1)[:len(beginnings)]


def told_by_words(caller, beginnings, number):
    steps = steps_by_words(caller, beginnings, number)
    events = [event for _, each in steps for event in each]
    knocks = sum(1 for _, word, _ in events if word != "held")
    served = sum(1 for _, word, _ in events if word == "served")
    lost = sum(1 for _, _, what in events if what in ("knocks", "time", "purse"))
    return steps[-1][0], knocks, served, lost


@functools.cache
def all_by_words(caller, beginnings):
    """What is told by each story, gone through one by one, at the place of its number."""
    return [told_by_words(caller, beginnings, number) for number in range(2 ** len(beginnings))]


@functools.cache
def standings_by_words(caller, beginnings):
    """The set of the standings ahead of each beat, and behind the last, over all stories one by one."""
    layers = [set() for _ in range(len(beginnings) + 1)]
    for number in range(2 ** len(beginnings)):
        layers[0].add((0, (), caller[1][3], ("open", 0), 0))
        for at, (standing, _) in enumerate(steps_by_words(caller, beginnings, number)):
            layers[at + 1].add(standing)
    return layers


def knocks_in(events):
    return sum(1 for _, word, _ in events if word != "held")


def marks_by_words(caller, beginnings, k, thing):
    """Whether a list of lists of (standing, whole number) is marks that show k, straight out of point 8.3's words."""
    layers = standings_by_words(caller, beginnings)
    if len(thing) != len(layers):
        return False
    for entries, standings in zip(thing, layers):
        if [standing for standing, _ in entries] != sorted(standings) or any(mark < 0 for _, mark in entries):
            return False
    if dict(thing[0])[first_of(caller)] > k:
        return False
    for at, many in enumerate(beginnings):
        behind = dict(thing[at + 1])
        for standing, mark in thing[at]:
            for sound in (True, False):
                then, events = stepped(caller, standing, sound, many)
                if mark < knocks_in(events) + behind[then]:
                    return False
    return True


def with_mark(marks, at, place, change):
    changed = copy.deepcopy(marks)
    standing, mark = changed[at][place]
    changed[at][place] = (standing, mark + change)
    return changed


class Told(unittest.TestCase):
    def test_named_ones(self):
        for caller, beginnings, story, wanted in (
            (CALLER, (1,), (), ((1, (), 2, ("open", 0), 1), 1, 1, 0)),
            (CALLER, (1,), ((0, 1),), ((1, ((1, 0, 0, 1),), 0, ("open", 1), 1), 1, 0, 0)),
            (CALLER, (1, 0), ((0, 1),), ((2, (), 0, ("open", 0), 1), 2, 1, 0)),
            (CALLER, (1, 0), ((0, 2),), ((2, (), 0, ("shut", 3, 2), 1), 2, 0, 1)),
            (CALLER, (3,), ((0, 1),), ((1, ((1, 0, 0, 1), (1, 2, 0, 1)), 0, ("shut", 2, 2), 3), 2, 0, 1)),
            (CALLER, (3, 0), ((0, 1),), ((2, (), 0, ("shut", 2, 2), 3), 2, 0, 3)),
            (CALLER, (0, 0), ((0, 2),), ((2, (), 1, ("open", 0), 0), 0, 0, 0)),
            (ONCE, (2, 1), ((0, 1),), ((2, (), 0, ("shut", 5, 5), 3), 1, 0, 3)),
            (ONCE, (2, 1), ((1, 2),), ((2, (), 0, ("shut", 6, 5), 3), 3, 2, 1)),
            (LEAST, (3,), ((0, 1),), ((1, (), 0, ("shut", 1, 1), 3), 1, 0, 3)),
        ):
            self.assertEqual(asked_fairly(self, told_of, caller, beginnings, story), wanted, (caller, beginnings, story))

    def test_each_way_to_be_lost_counts(self):
        for plan, purse in (((EACH, 1, 9), RICH), ((EACH, 2, 0), RICH), ((EACH, 2, 9), EMPTY)):
            self.assertEqual(told_of((plan, purse, WIDE), (2,), ((0, 1),))[1:], (2, 0, 2))

    def test_a_held_one_is_no_knock(self):
        self.assertEqual(told_of(ONCE, (3,), ((0, 1),))[1:], (1, 0, 3))
        self.assertEqual(told_of(ONCE, (1, 3), ((0, 1),))[1:], (1, 0, 4))
        self.assertEqual(told_of(ONCE, (1, 3), ())[1:], (4, 4, 0))

    def test_by_words(self):
        for caller, beginnings in all_samples(81, 60):
            for number in range(2 ** len(beginnings)):
                story = story_at(number, len(beginnings))
                told = asked_fairly(self, told_of, caller, beginnings, story)
                self.assertEqual(repr(told), repr(told_by_words(caller, beginnings, number)))

    def test_as_gone_goes(self):
        for caller, beginnings in samples(811, 60, 4):
            askings = tuple(beat for beat, many in enumerate(beginnings) for _ in range(many))
            for number in range(2 ** len(beginnings)):
                story = story_at(number, len(beginnings))
                events = [event for event in gone(caller, askings, story)[0] if event[0] < len(beginnings)]
                told = told_of(caller, beginnings, story)
                self.assertEqual(told[1], sum(1 for event in events if event[2] != "held"))
                self.assertEqual(told[2], sum(1 for event in events if event[2] == "served"))
                self.assertEqual(told[3], sum(1 for event in events if isinstance(event[3], str)))

    def test_all_are_served_lost_or_wait(self):
        for caller, beginnings in samples(812, 60):
            for number in range(2 ** len(beginnings)):
                standing, _, served, lost = told_of(caller, beginnings, story_at(number, len(beginnings)))
                self.assertEqual(served + lost + len(standing[1]), sum(beginnings))
                self.assertEqual((standing[0], standing[4]), (len(beginnings), sum(beginnings)))


class OverAllStories(unittest.TestCase):
    def test_named_ones(self):
        for caller, beginnings, most, worst, fewest, story in (
            (CALLER, (0,), 0, (), 0, ()), (CALLER, (3,), 3, (), 0, ((0, 1),)), (ONCE, (3,), 3, (), 0, ((0, 1),)),
            (PATIENT, (1,), 1, (), 0, ((0, 1),)), (PATIENT, (1, 0), 2, ((0, 1),), 0, ((0, 2),)),
            (PATIENT, (1, 0, 0), 3, ((0, 2),), 0, ((0, 3),)), (PATIENT, (0, 3, 0, 0), 9, ((1, 3),), 0, ((1, 4),)),
            (ONCE, (1, 1, 1), 3, (), 0, ((0, 1),)), (ONCE, (0, 1, 1), 2, (), 0, ((1, 2),)),
            (PATIENT, (3,) * 8, 60, ((0, 3), (4, 7)), 0, ((0, 8),)),
        ):
            self.assertEqual(asked_fairly(self, most_knocks, caller, beginnings), most)
            self.assertEqual(asked_fairly(self, worst_story, caller, beginnings), worst)
            self.assertEqual(asked_fairly(self, fewest_served, caller, beginnings), fewest)
            self.assertEqual(asked_fairly(self, fewest_story, caller, beginnings), story)

    def test_stories_one_by_one(self):
        for caller, beginnings in all_samples(82, 120, 6):
            told = all_by_words(caller, beginnings)
            knocks, served = [each[1] for each in told], [each[2] for each in told]
            n = len(beginnings)
            self.assertEqual(asked_fairly(self, most_knocks, caller, beginnings), max(knocks))
            self.assertEqual(asked_fairly(self, fewest_served, caller, beginnings), min(served))
            self.assertEqual(number_of(asked_fairly(self, worst_story, caller, beginnings)), knocks.index(max(knocks)))
            self.assertEqual(number_of(asked_fairly(self, fewest_story, caller, beginnings)), served.index(min(served)))
            for story in (worst_story(caller, beginnings), fewest_story(caller, beginnings)):
                self.assertIs(story_good(story), True)
                self.assertLessEqual(healed_at(story), n)
            self.assertEqual(told_of(caller, beginnings, worst_story(caller, beginnings))[1], max(knocks))
            self.assertEqual(told_of(caller, beginnings, fewest_story(caller, beginnings))[2], min(served))

    def test_the_samples_are_of_all_sorts(self):
        told = [all_by_words(*each) for each in all_samples(82, 120, 6)]
        worst = {[each[1] for each in row].index(max(each[1] for each in row)) for row in told}
        fewest = {[each[2] for each in row].index(min(each[2] for each in row)) for row in told}
        self.assertGreater(len(worst), 10)
        self.assertGreater(len(fewest), 10)


class Losing(unittest.TestCase):
    def test_named_ones(self):
        for caller, beginnings, many, story in (
            (CALLER, (0,) * 8, None, None), (CALLER, (1,), None, None), (CALLER, (1, 0), 2, ((0, 2),)),
            (CALLER, (3,), 1, ((0, 1),)), (PATIENT, (3,) * 8, None, None), (ONCE, (0, 0, 1), 1, ((2, 3),)),
            (ONCE, (1, 1, 1), 1, ((0, 1),)), (((EACH, 3, 9), RICH, WIDE), (0, 1, 0, 0, 0), 3, ((1, 4),)),
            (((EACH, 3, 9), RICH, WIDE), (0, 1, 0), None, None), (((EACH, 9, 2), RICH, WIDE), (1, 0, 0, 0), 3, ((0, 3),)),
            ((((2, 1, 0, 2), 3, 9), RICH, WIDE), (1, 0, 0, 0, 0), 3, ((0, 1), (2, 3), (4, 5))),
            (((EACH, 3, 9), RICH, (1, 5, 1, 5, 1)), (1, 0, 0), 1, ((0, 1),)),
        ):
            self.assertEqual(asked_fairly(self, least_silent, caller, beginnings), many, (caller, beginnings))
            self.assertEqual(asked_fairly(self, losing_story, caller, beginnings), story, (caller, beginnings))

    def test_stories_one_by_one(self):
        seen = set()
        for caller, beginnings in all_samples(84, 150, 6):
            losing = [number for number, told in enumerate(all_by_words(caller, beginnings)) if told[3] > 0]
            least = min([bin(number).count("1") for number in losing], default=None)
            self.assertEqual(asked_fairly(self, least_silent, caller, beginnings), least)
            story = asked_fairly(self, losing_story, caller, beginnings)
            if least is None:
                self.assertIsNone(story)
            else:
                number = [number for number in losing if bin(number).count("1") == least][0]
                self.assertEqual(story, story_at(number, len(beginnings)))
                self.assertEqual(silent_many(story, 0, len(beginnings)), least)
                seen.add((least, number == losing[0]))
        # Among them are some whose first losing story isn't the one with the fewest silent beats.
        self.assertTrue({(1, True), (1, False), (2, True)} <= seen, seen)


class Marks(unittest.TestCase):
    def test_named_ones(self):
        first = first_of(CALLER)
        one = (1, ((1, 0, 0, 1),), 0, ("open", 1), 1)
        other = (1, (), 2, ("open", 0), 1)
        self.assertEqual(marks_for(CALLER, (1,), 1), [[(first, 1)], [(other, 0), (one, 0)]])
        self.assertIsNone(marks_for(CALLER, (1,), 0))
        for marks, k, wanted in (
            ([[(first, 1)], [(other, 0), (one, 0)]], 1, True), ([[(first, 1)], [(other, 0), (one, 0)]], 2, True),
            ([[(first, 1)], [(other, 0), (one, 0)]], 0, False), ([[(first, 1)], [(other, 1), (one, 0)]], 1, False),
            ([[(first, 2)], [(other, 1), (one, 0)]], 2, True), ([[(first, 2)], [(other, 0), (one, 1)]], 2, True),
            ([[(first, 2)], [(other, 2), (one, 0)]], 2, False), ([[(first, 0)], [(other, 0), (one, 0)]], 1, False),
            ([[(first, 9)], [(other, 0), (one, 0)]], 9, True), ([[(first, HUGE)], [(other, 0), (one, HUGE - 1)]], HUGE, True),
            ([[(first, HUGE)], [(other, 0), (one, HUGE)]], HUGE, False), ([[(first, 1)], [(other, 0), (one, -1)]], 1, False),
            ([[(first, 1)], [(one, 0), (other, 0)]], 1, False), ([[(first, 1)], [(other, 0)]], 1, False),
            ([[(first, 1)], [(other, 0), (other, 0), (one, 0)]], 1, False), ([[(first, 1)]], 1, False), ([], 1, False),
            ([[(first, 1)], [(other, 0), (other, 1), (one, 0)]], 2, False), ([[(first, 2), (first, 1)], [(other, 0), (one, 0)]], 2, False),
            ([[(first, 1)], [(other, 0), (one, 0)], []], 1, False), ([[], [(other, 0), (one, 0)]], 1, False),
            ([[(first, 1)], [(other, 0), (one, 0), ((1, (), 3, ("open", 0), 1), 0)]], 1, False),
            (([(first, 1)], [(other, 0), (one, 0)]), 1, False), ([((first, 1),), [(other, 0), (one, 0)]], 1, False),
            ([[[first, 1]], [(other, 0), (one, 0)]], 1, False), ([[(first, 1)], {other: 0, one: 0}], 1, False),
            ([[(first, True)], [(other, 0), (one, 0)]], 1, False), ([[(first, 1)], [(other, False), (one, 0)]], 1, False),
            ([[(first, 1, 0)], [(other, 0), (one, 0)]], 1, False), ([[(first,)], [(other, 0), (one, 0)]], 1, False),
            ([[(list(first), 1)], [(other, 0), (one, 0)]], 1, False), ([[((False,) + first[1:], 1)], [(other, 0), (one, 0)]], 1, False),
            ([[(first, 1)], [((True,) + other[1:], 0), (one, 0)]], 1, False), ([[(first, 1)], [(other[:4] + (True,), 0), (one, 0)]], 1, False),
            ([[(first, 1)], [(other, 0), ((1, ((True, 0, 0, 1),), 0, ("open", 1), 1), 0)]], 1, False),
            ([[(first, 1)], [(other, 0), ((1, ((1, 0, 0, 1),), 0, ("open", True), 1), 0)]], 1, False),
            ([[(first, 1)], [(other, 0), ((1, ([1, 0, 0, 1],), 0, ("open", 1), 1), 0)]], 1, False),
            ([[(first, 1)], [(other, 0), (one, 0)]], -1, False), ([[(first, "1")], [(other, 0), (one, 0)]], 1, False),
        ):
            self.assertIs(asked_fairly(self, marks_good, CALLER, (1,), k, marks), wanted, (k, marks))

    def test_no_beginnings_mark_nothing(self):
        marks = marks_for(CALLER, (0, 0), 0)
        self.assertEqual(marks, [[((beat, (), 1, ("open", 0), 0), 0)] for beat in range(3)])
        self.assertIs(marks_good(CALLER, (0, 0), 0, marks), True)
        self.assertIsNone(marks_for(CALLER, (0, 0), -1))

    def test_marks_for_by_words(self):
        for caller, beginnings in all_samples(83, 50):
            most = max(told[1] for told in all_by_words(caller, beginnings))
            for k in (most, most + 1, most + 20, GREAT):
                marks = asked_fairly(self, marks_for, caller, beginnings, k)
                self.assertIs(type(marks), list)
                self.assertTrue(all(type(entries) is list for entries in marks))
                self.assertIs(marks_by_words(caller, beginnings, k, marks), True)
                self.assertIs(asked_fairly(self, marks_good, caller, beginnings, k, marks), True)
            for k in (most - 1, 0, -1, -GREAT):
                if k < most:
                    self.assertIsNone(asked_fairly(self, marks_for, caller, beginnings, k))

    def test_marks_just_short_of_showing(self):
        for caller, beginnings in all_samples(831, 40):
            most = most_knocks(caller, beginnings)
            marks = marks_for(caller, beginnings, most)
            self.assertIs(marks_good(caller, beginnings, most - 1, marks), False)
            self.assertIs(marks_good(caller, beginnings, most + 1, marks), True)

    def test_each_mark_greater_or_less_by_words(self):
        answers = []
        for caller, beginnings in all_samples(832, 25, 4):
            if len(beginnings) < 6:
                most = most_knocks(caller, beginnings)
                marks = marks_for(caller, beginnings, most)
                for at, entries in enumerate(marks):
                    for place, change in ((place, change) for place in range(len(entries)) for change in (-1, 1, 3)):
                        thing = with_mark(marks, at, place, change)
                        for k in (most, most + 1):
                            answer = asked_fairly(self, marks_good, caller, beginnings, k, thing)
                            self.assertIs(answer, marks_by_words(caller, beginnings, k, thing))
                            answers.append(answer)
        self.assertTrue(answers.count(True) > 100 and answers.count(False) > 100)

    def test_whoever_made_them(self):
        for caller, beginnings in all_samples(833, 25):
            most, n = most_knocks(caller, beginnings), len(beginnings)
            total = 9 * n
            marks = [[(standing, total - 9 * at + most) for standing, _ in entries] for at, entries in enumerate(marks_for(caller, beginnings, most))]
            for k in (total + most - 1, total + most):
                wanted = marks_by_words(caller, beginnings, k, marks)
                self.assertIs(marks_good(caller, beginnings, k, marks), wanted)
                if wanted:
                    self.assertLessEqual(most, k)

    def test_marks_of_others(self):
        given = [each for each in GIVEN if len(each[1]) < 5]
        for caller, beginnings in given:
            for other, others in given:
                k = most_knocks(other, others)
                marks = marks_for(other, others, k)
                wanted = marks_by_words(caller, beginnings, k, marks)
                self.assertIs(asked_fairly(self, marks_good, caller, beginnings, k, marks), wanted)

    def test_standings_left_out_added_and_turned_about(self):
        for caller, beginnings in all_samples(834, 20, 4):
            most = most_knocks(caller, beginnings)
            marks = marks_for(caller, beginnings, most)
            for at, entries in enumerate(marks):
                for thing in (entries[1:], entries[:-1], entries + entries[-1:], entries[:1] + entries, [], tuple(entries), dict(entries)):
                    self.assertIs(asked_fairly(self, marks_good, caller, beginnings, most, marks[:at] + [thing] + marks[at + 1:]), False)
                if len(entries) > 1:
                    self.assertIs(marks_good(caller, beginnings, most, marks[:at] + [entries[::-1]] + marks[at + 1:]), False)
            for thing in (marks[:-1], marks[1:], marks + marks[-1:], marks + [[]], marks[::-1], tuple(marks), [marks], dict(enumerate(marks))):
                self.assertIs(asked_fairly(self, marks_good, caller, beginnings, most, thing), False)

    def test_whatever(self):
        for caller, beginnings in ((CALLER, (1, 0)), (PATIENT, (0,)), (ONCE, (2,))):
            for k in (0, 5, GREAT):
                for thing in whatever():
                    self.assertIs(asked_fairly(self, marks_good, caller, beginnings, k, thing), False, thing)
                    for wrong in ([thing], [thing, thing], [[thing], [thing]], [[(thing, thing)]] * 2):
                        self.assertIs(asked_fairly(self, marks_good, caller, beginnings, k, wrong), False, wrong)

    def test_spoiled(self):
        for caller, beginnings in ((CALLER, (1,)), (ONCE, (2,))):
            most = most_knocks(caller, beginnings)
            marks = marks_for(caller, beginnings, most)
            for at, entries in enumerate(marks):
                for wrong in wrong_parts():
                    self.assertIs(asked_fairly(self, marks_good, caller, beginnings, most, marks[:at] + [wrong] + marks[at + 1:]), False)
                for place, entry in enumerate(entries):
                    for wrong in spoiled(entry):
                        thing = copy.deepcopy(marks)
                        thing[at][place] = wrong
                        self.assertIs(asked_fairly(self, marks_good, caller, beginnings, most, thing), False, wrong)

    def test_marks_are_the_asker_s_own(self):
        for caller, beginnings in GIVEN:
            most = most_knocks(caller, beginnings)
            marks, again = marks_for(caller, beginnings, most), marks_for(caller, beginnings, most)
            wanted = copy.deepcopy(marks)
            lists = [marks, again] + marks + again
            self.assertEqual(len({id(one) for one in lists}), len(lists))
            for entries in marks:
                entries.clear()
            marks.clear()
            self.assertEqual(again, wanted)
            self.assertEqual(marks_for(caller, beginnings, most), wanted)
            self.assertIs(marks_good(caller, beginnings, most, again), True)


def served_from_there(caller, standing, begin, pattern):
    """Whether at a house that is sound from a standing on each try at begin or later is served.

    pattern tells how many begin at begin and at each later beat.
    """
    for beat in range(standing[0], begin + 8 + len(pattern)):
        many = pattern[beat - begin] if 0 <= beat - begin < len(pattern) else 0
        standing, events = stepped(caller, standing, True, many)
        if beat >= begin and any(word != "served" for _, word, _ in events):
            return False
    return True


def calm_by_words(caller, beginnings):
    """The least beat from which on each try is served, tried beat by beat, whatever the story was."""
    begin = len(beginnings)
    standings = standings_by_words(caller, beginnings)[-1]
    while not all(
        served_from_there(caller, standing, begin, pattern)
        for standing in standings for pattern in ((), (1,), (20,), (0, 1), (1, 2, 3), (0, 0, 0, 2))
    ):
        begin += 1
    return begin


class Calm(unittest.TestCase):
    def test_named_ones(self):
        for caller, beginnings, wanted in (
            (CALLER, (0,) * 8, 8), (CALLER, (0,), 1), (CALLER, (1,), 1), (CALLER, (2,), 2), (CALLER, (3, 0), 2), (ONCE, (1,), 5),
            (ONCE, (0, 0, 1), 7), (ONCE, (1, 0, 0), 5), (ONCE, (1, 0, 0, 0, 0, 0), 6), (ONCE, (1, 1, 1), 7), (PATIENT, (1,), 1),
            (GREATEST, (3,) * 6, 6), (GREATEST, (3,) * 7, 1006), (GREATEST, (3,) * 8, 1007), (LEAST, (3,), 1),
            (((EACH, 9, 9), RICH, (1, 1, 10, 1000, 1)), (1, 0), 11), (((EACH, 9, 9), RICH, (1, 2, 10, 1000, 1)), (1, 0, 0), 22),
            (((EACH, 99, 99), RICH, (1, 1, 2, 1000, 1)), (1,) * 8, 15),
        ):
            self.assertEqual(asked_fairly(self, calm_from, caller, beginnings), wanted, (caller, beginnings))

    def test_by_words(self):
        later = 0
        for caller, beginnings in all_samples(85, 80):
            if caller[2][3] < 50:
                wanted = calm_by_words(caller, beginnings)
                self.assertEqual(asked_fairly(self, calm_from, caller, beginnings), wanted)
                later += wanted > len(beginnings)
        self.assertGreater(later, 20)

    def test_comings_ahead_of_it_change_nothing(self):
        mixer = random.Random(851)
        for caller, beginnings in samples(852, 40):
            calm = calm_from(caller, beginnings)
            for standing in standings_by_words(caller, beginnings)[-1]:
                while standing[0] < calm + 5:
                    beat = standing[0]
                    standing, events = stepped(caller, standing, True, mixer.randrange(3))
                    if beat >= calm:
                        self.assertTrue(all(word == "served" for _, word, _ in events))


class MoreBy(unittest.TestCase):
    def test_named_ones(self):
        more = ((EACH, 3, 9), RICH, WIDE)
        less = ((EACH, 2, 9), RICH, WIDE)
        for one, other, beginnings, wanted in (
            (more, less, (1, 0), None), (more, less, (1, 0, 0), ((0, 2),)), (less, more, (1, 0, 0), None),
            (more, less, (0, 1, 0, 0), ((1, 3),)), (PATIENT, ONCE, (1,), None), (PATIENT, ONCE, (2,), ((0, 1),)),
            (ONCE, PATIENT, (3, 3), None), (more, more, (3,) * 8, None),
            # One is shut longer, but the other is lost sooner.
            (((EACH, 2, 9), RICH, (1, 2, 1, 2, 1)), ((EACH, 1, 9), RICH, (1, 1, 1, 1, 1)), (1, 1), None),
            (((EACH, 1, 9), RICH, (1, 1, 1, 1, 1)), ((EACH, 2, 9), RICH, (1, 2, 1, 2, 1)), (1, 1), ((0, 1),)),
        ):
            self.assertEqual(asked_fairly(self, more_by, one, other, beginnings), wanted, (one, other, beginnings))

    def test_stories_one_by_one(self):
        mixer = random.Random(86)
        seen = set()
        for one, beginnings in all_samples(861, 150, 6):
            other = random_caller(mixer)
            for first, second in ((one, other), (other, one)):
                pairs = zip(all_by_words(first, beginnings), all_by_words(second, beginnings))
                more = [number for number, (told, other_told) in enumerate(pairs) if told[1] > other_told[1]]
                wanted = story_at(more[0], len(beginnings)) if more else None
                self.assertEqual(asked_fairly(self, more_by, first, second, beginnings), wanted)
                seen.add(more[0] if more else None)
        self.assertTrue({None, 1, 2, 3} <= seen, seen)


class Together(unittest.TestCase):
    def test_no_more_knocks_than_tries(self):
        for caller, beginnings in all_samples(87, 200, 8):
            self.assertLessEqual(most_knocks(caller, beginnings), most_tries(caller, sum(beginnings)))
        self.assertEqual(most_knocks(((EACH, 2, 9), RICH, WIDE), (3, 0)), most_tries(((EACH, 2, 9), RICH, WIDE), 3))

    def test_marks_that_show_a_number_show_each_greater_one(self):
        for caller, beginnings in all_samples(871, 60, 8):
            most = most_knocks(caller, beginnings)
            marks = marks_for(caller, beginnings, most)
            self.assertIsNotNone(marks)
            self.assertIsNone(marks_for(caller, beginnings, most - 1))
            for k in (most, most + 1, most + 2, most + 100, GREAT):
                self.assertIs(marks_good(caller, beginnings, k, marks), True)

    def test_no_marks_show_too_few(self):
        mixer = random.Random(872)
        for caller, beginnings in all_samples(873, 60):
            most = most_knocks(caller, beginnings)
            marks = marks_for(caller, beginnings, most)
            for _ in range(20):
                thing = [[(standing, max(0, mark + mixer.randrange(-1, 2))) for standing, mark in entries] for entries in marks]
                self.assertIs(marks_good(caller, beginnings, most - 1, thing), False)

    def test_a_healed_story_loses_no_asking_from_calm_from_on(self):
        for caller, beginnings in samples(874, 80):
            askings = tuple(beat for beat, many in enumerate(beginnings) for _ in range(many))[:9]
            calm = calm_from(caller, tuple(askings.count(beat) for beat in range(len(beginnings))))
            for number in range(2 ** len(beginnings)):
                story = story_at(number, len(beginnings))
                ends = gone(caller, askings + (calm, calm, calm + 3), story)[1]
                self.assertEqual(ends[-3:], (("served", calm), ("served", calm), ("served", calm + 3)))

    def test_no_caller_has_more_knocks_than_itself(self):
        for caller, beginnings in all_samples(875, 60, 8):
            self.assertIsNone(more_by(caller, caller, beginnings))

    def test_with_no_story_all_are_served(self):
        for caller, beginnings in all_samples(876, 60, 8):
            self.assertEqual(told_of(caller, beginnings, ())[1:], (sum(beginnings), sum(beginnings), 0))
            self.assertGreaterEqual(most_knocks(caller, beginnings), sum(beginnings))
            self.assertLessEqual(fewest_served(caller, beginnings), sum(beginnings))


class SomewhatBeyond(unittest.TestCase):
    def test_nothing_is_refused(self):
        for beginnings in ((1,) * 9, (4, 0, 7), (20,)):
            told = all_by_words(CALLER, beginnings)
            most = max(each[1] for each in told)
            self.assertEqual(most_knocks(CALLER, beginnings), most)
            self.assertIs(marks_good(CALLER, beginnings, most, marks_for(CALLER, beginnings, most)), True)
            self.assertEqual(fewest_served(CALLER, beginnings), min(each[2] for each in told))
            self.assertIsNone(more_by(CALLER, CALLER, beginnings))


if __name__ == "__main__":
    unittest.main()
