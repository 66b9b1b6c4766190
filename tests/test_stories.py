"""Points 2.1 to 2.3, and what 2.6 says of them."""

import itertools
import unittest

from knockpurse.errors import NoBeat, NoStory, TooGreat
from knockpurse.stories import (
    both, either, healed_at, later_by, longest_of, next_silent, next_sound, other_way, silent_at, silent_many,
    story_good, story_of,
)
from tests.things import GREAT, HUGE, asked_fairly, refusal, spoiled, whatever, wrong_parts

LAST = 1000000


def combed(many, first=0, step=2, width=1):
    """A story of many stretches that stand one behind the other alike."""
    return tuple((first + step * at, first + step * at + width) for at in range(many))


def beats_in(story):
    return [beat for first, last in story for beat in range(first, last)]


def small_stories(n):
    """All stories of n beats, built without the program."""
    for many in range(n + 1):
        for beats in itertools.combinations(range(n), many):
            starts = [beat for beat in beats if beat - 1 not in beats]
            ends = [beat + 1 for beat in beats if beat + 1 not in beats]
            yield tuple(zip(starts, ends))


class StoryGood(unittest.TestCase):
    def test_good_ones(self):
        for story in (
            (), ((0, 1),), ((0, LAST),), ((LAST - 1, LAST),), ((0, 1), (2, 3)), ((5, 9), (10, 12), (100, 2000)),
            combed(200), combed(200, LAST - 399),
        ):
            self.assertIs(story_good(story), True, story)
        for story in small_stories(6):
            self.assertIs(story_good(story), True, story)

    def test_bad_ones(self):
        for thing in (
            ((0, 0),), ((1, 0),), ((-1, 1),), ((0, LAST + 1),), ((LAST, LAST + 1),), ((LAST, LAST),), ((0, HUGE),),
            ((0, 1), (1, 2)), ((0, 2), (1, 3)), ((2, 3), (0, 1)), ((0, 1), (0, 1)), ((0, 5), (2, 3)), ((0,),),
            ((0, 1, 2),), ((),), (0, 1), combed(201), [(0, 1)], ([0, 1],), ({0: 1},), ((0, 1), [2, 3]), (("0", "1"),),
        ):
            self.assertIs(story_good(thing), False, thing)

    def test_whatever(self):
        for thing in whatever():
            wanted = thing == () or repr(thing) == "((0, 1),)"
            self.assertIs(asked_fairly(self, story_good, thing), wanted, thing)

    def test_spoiled(self):
        for thing in spoiled(((0, 1), (3, 4))):
            self.assertIs(asked_fairly(self, story_good, thing), False, thing)

    def test_stretches_are_looked_at_to_the_last(self):
        for wrong in wrong_parts():
            self.assertIs(story_good(combed(199) + (wrong,)), False)
            self.assertIs(story_good(combed(199) + ((500, wrong),)), False)


class StoryOf(unittest.TestCase):
    def test_ordinary(self):
        self.assertEqual(story_of([]), ())
        self.assertEqual(story_of([0]), ((0, 1),))
        self.assertEqual(story_of([5, 3, 4, 9, 3, 9, 9]), ((3, 6), (9, 10)))
        self.assertEqual(story_of([LAST - 1, 0]), ((0, 1), (LAST - 1, LAST)))

    def test_silent_beats_make_a_story_again(self):
        for story in small_stories(7):
            beats = beats_in(story)
            self.assertEqual(asked_fairly(self, story_of, beats), story)
            self.assertEqual(asked_fairly(self, story_of, beats[::-1] + beats[::2]), story)
        self.assertEqual(story_of(list(range(2000, 5000))), ((2000, 5000),))

    def test_how_many_stretches(self):
        self.assertEqual(story_of(list(range(0, 400, 2))), combed(200))
        self.assertEqual(refusal(self, NoStory, story_of, list(range(0, 402, 2))), {"number": 201})
        self.assertEqual(refusal(self, NoStory, story_of, [0, 0, 0] + list(range(0, 402, 2))), {"number": 204})
        self.assertEqual(story_of(list(range(0, 402, 2)) + [1]), ((0, 3),) + combed(199, 4))

    def test_place_of_the_first_that_is_no_beat(self):
        for wrong in wrong_parts() + [LAST, LAST + 1, GREAT, ()]:
            self.assertEqual(refusal(self, NoStory, story_of, [wrong]), {"number": 0})
            self.assertEqual(refusal(self, NoStory, story_of, [4, 3, 4, wrong, 7]), {"number": 3})
            self.assertEqual(refusal(self, NoStory, story_of, [1, wrong, None, wrong]), {"number": 1})

    def test_a_wrong_thing_goes_ahead_of_too_many_stretches(self):
        self.assertEqual(refusal(self, NoStory, story_of, list(range(0, 602, 2)) + ["x"]), {"number": 301})

    def test_the_list_may_be_changed_behind(self):
        beats = [1, 2]
        story = story_of(beats)
        beats.append(9)
        self.assertEqual(story, ((1, 3),))


class Asked(unittest.TestCase):
    def test_silent_at_and_next(self):
        for story in small_stories(6):
            silent = set(beats_in(story))
            for beat in range(9):
                self.assertIs(silent_at(story, beat), beat in silent)
                self.assertEqual(next_sound(story, beat), min(at for at in range(beat, 20) if at not in silent))
                self.assertEqual(next_silent(story, beat), min((at for at in silent if at >= beat), default=None))

    def test_healed_at(self):
        self.assertEqual(healed_at(()), 0)
        for story in small_stories(6):
            self.assertEqual(healed_at(story), max(beats_in(story), default=-1) + 1)

    def test_edges_of_beats(self):
        story = ((0, 3), (999000, LAST))
        self.assertEqual(healed_at(story), LAST)
        self.assertIs(silent_at(story, 0), True)
        self.assertIs(silent_at(story, 3), False)
        self.assertIs(silent_at(story, LAST - 1), True)
        self.assertIs(silent_at(story, LAST), False)
        self.assertEqual(next_sound(story, 999500), LAST)
        self.assertEqual(next_sound(story, LAST), LAST)
        self.assertEqual(next_silent(story, 3), 999000)
        self.assertEqual(next_silent(story, LAST - 1), LAST - 1)
        self.assertIsNone(next_silent(story, LAST))
        self.assertIsNone(next_silent((), 0))
        self.assertEqual(next_sound((), 0), 0)

    def test_many_stretches(self):
        story = combed(200)
        self.assertEqual(next_sound(story, 398), 399)
        self.assertEqual(next_silent(story, 397), 398)
        self.assertIsNone(next_silent(story, 399))
        self.assertEqual(silent_many(story, 0, LAST), 200)

    def test_silent_many(self):
        for story in small_stories(6):
            silent = beats_in(story)
            for first, last in itertools.product(range(9), repeat=2):
                wanted = len([beat for beat in silent if first <= beat < last])
                self.assertEqual(silent_many(story, first, last), wanted)
        self.assertEqual(silent_many(((0, LAST),), 0, LAST), LAST)
        self.assertEqual(silent_many(((0, LAST),), LAST, 0), 0)
        self.assertEqual(silent_many((), 0, LAST), 0)

    def test_silent_and_sound_beats_are_all_beats(self):
        for story in small_stories(6):
            for n in range(8):
                sound = silent_many(other_way(story, n), 0, n)
                self.assertEqual(silent_many(story, 0, n) + sound, n)

    def test_longest_of(self):
        self.assertIsNone(longest_of(()))
        self.assertEqual(longest_of(((0, 2), (3, 6), (7, 10), (11, 12))), (3, 6))
        self.assertEqual(longest_of(combed(200)), (0, 1))
        self.assertEqual(longest_of(((0, 1), (5, LAST))), (5, LAST))
        for story in small_stories(6):
            if story:
                length = max(last - first for first, last in story)
                self.assertEqual(longest_of(story), [one for one in story if one[1] - one[0] == length][0])


class TwoStories(unittest.TestCase):
    def test_either_and_both(self):
        for one, other in itertools.product(list(small_stories(5)), repeat=2):
            silent, against = set(beats_in(one)), set(beats_in(other))
            self.assertEqual(either(one, other), story_of(list(silent | against)))
            self.assertEqual(both(one, other), story_of(list(silent & against)))

    def test_what_only_touches_becomes_one_stretch(self):
        self.assertEqual(either(((0, 5),), ((5, 8),)), ((0, 8),))
        self.assertEqual(either(((5, LAST),), ((0, 5),)), ((0, LAST),))
        self.assertEqual(both(((0, 5),), ((5, 8),)), ())

    def test_how_many_of_either(self):
        self.assertEqual(either(combed(100, 0, 4), combed(100, 2, 4)), combed(200))
        wanted = {"many": 201, "most": 200}
        self.assertEqual(refusal(self, TooGreat, either, combed(100, 0, 4), combed(101, 2, 4)), wanted)
        wanted = {"many": 400, "most": 200}
        self.assertEqual(refusal(self, TooGreat, either, combed(200, 0, 4), combed(200, 2, 4)), wanted)
        self.assertEqual(either(combed(200), combed(200, 1)), ((0, 400),))
        self.assertEqual(either(combed(200), combed(200)), combed(200))

    def test_how_many_of_both(self):
        self.assertEqual(both(combed(200), ((0, LAST),)), combed(200))
        # Each stretch of the one bridges the gap between two of the other.
        wanted = {"many": 399, "most": 200}
        self.assertEqual(refusal(self, TooGreat, both, combed(200, 0, 10, 8), combed(200, 5, 10, 8)), wanted)
        wanted = {"many": 201, "most": 200}
        self.assertEqual(refusal(self, TooGreat, both, combed(101, 0, 10, 8), combed(101, 5, 10, 8)), wanted)
        self.assertEqual(len(both(combed(101, 0, 10, 8), combed(100, 5, 10, 8))), 200)

    def test_other_way(self):
        for story in small_stories(5):
            for beat in range(8):
                wanted = [at for at in range(beat) if at not in beats_in(story)]
                self.assertEqual(other_way(story, beat), story_of(wanted))
        self.assertEqual(other_way((), LAST), ((0, LAST),))
        self.assertEqual(other_way((), 0), ())
        self.assertEqual(other_way(((0, LAST),), LAST), ())
        self.assertEqual(other_way(((3, 5), (9, LAST)), LAST), ((0, 3), (5, 9)))

    def test_how_many_of_other_way(self):
        wanted = {"many": 201, "most": 200}
        self.assertEqual(refusal(self, TooGreat, other_way, combed(200, 1), LAST), wanted)
        self.assertEqual(refusal(self, TooGreat, other_way, combed(200, 1), 401), wanted)
        self.assertEqual(other_way(combed(200, 1), 400), combed(200))
        self.assertEqual(len(other_way(combed(200), LAST)), 200)

    def test_turned_about(self):
        for one, other in itertools.product(list(small_stories(5)), repeat=2):
            for n in (3, 6):
                turned, against = other_way(one, n), other_way(other, n)
                self.assertEqual(other_way(either(one, other), n), both(turned, against))
                self.assertEqual(other_way(both(one, other), n), either(turned, against))


class Later(unittest.TestCase):
    def test_small_ones(self):
        for story in small_stories(5):
            for by in range(-7, 8):
                wanted = [beat + by for beat in beats_in(story) if beat + by >= 0]
                self.assertEqual(later_by(story, by), story_of(wanted))

    def test_and_as_many_ahead_again(self):
        for story in list(small_stories(5)) + [combed(200), ((0, 1), (70, 500))]:
            for by in range(8):
                self.assertEqual(later_by(later_by(story, by), -by), story)

    def test_cut_at_the_beginning(self):
        self.assertEqual(later_by(((0, 5), (7, 9)), -3), ((0, 2), (4, 6)))
        self.assertEqual(later_by(((0, 5), (7, 9)), -5), ((2, 4),))
        self.assertEqual(later_by(((0, 5), (7, 9)), -9), ())
        self.assertEqual(later_by(((0, LAST),), -LAST + 1), ((0, 1),))

    def test_no_beat(self):
        self.assertEqual(later_by(((0, 1),), LAST - 1), ((LAST - 1, LAST),))
        self.assertEqual(refusal(self, NoBeat, later_by, ((0, 1),), LAST), {})
        self.assertEqual(refusal(self, NoBeat, later_by, ((0, 1), (3, LAST)), 1), {})
        self.assertEqual(later_by(((3, LAST),), 0), ((3, LAST),))

    def test_however_far(self):
        self.assertEqual(refusal(self, NoBeat, later_by, ((0, 1),), GREAT), {})
        self.assertEqual(later_by(((0, LAST),), -GREAT), ())
        self.assertEqual(later_by((), GREAT), ())
        self.assertEqual(later_by((), -GREAT), ())


if __name__ == "__main__":
    unittest.main()
