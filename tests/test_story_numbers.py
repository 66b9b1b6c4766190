"""Points 2.4 and 2.5, and what 2.6 says of them."""

import itertools
import math
import random
import unittest

from knockpurse.errors import NoNumber, NoStep, TooGreat
from knockpurse.stories import (
    healed_at, holds, number_of, silent_at, silent_choices, silent_many, stories_with, story_at, story_for,
    story_good, story_of, stretch_choices,
)
from tests.things import GREAT, HUGE, asked_fairly, refusal, spoiled, whatever, wrong_parts

LAST = 1000000


class Numbers(unittest.TestCase):
    def test_named_ones(self):
        self.assertEqual(story_at(0, 1), ())
        self.assertEqual(story_at(1, 1), ((0, 1),))
        self.assertEqual(story_at(13, 4), ((0, 1), (2, 4)))
        self.assertEqual(story_at(13, 24), ((0, 1), (2, 4)))
        self.assertEqual(story_at(2 ** 24 - 1, 24), ((0, 24),))
        self.assertEqual(story_at(2 ** 23, 24), ((23, 24),))
        self.assertEqual(number_of(()), 0)
        self.assertEqual(number_of(((0, 1), (2, 4))), 13)
        self.assertEqual(number_of(((0, 24),)), 2 ** 24 - 1)

    def test_number_and_story_lead_back(self):
        for n in range(1, 9):
            stories = [story_at(number, n) for number in range(2 ** n)]
            self.assertEqual([number_of(story) for story in stories], list(range(2 ** n)))
            self.assertTrue(all(story_good(story) and healed_at(story) <= n for story in stories))
            self.assertEqual(len(set(stories)), 2 ** n)
        for number in range(0, 2 ** 24, 99991):
            self.assertEqual(number_of(story_at(number, 24)), number)

    def test_number_is_a_sum_over_silent_beats(self):
        for number in range(2 ** 8):
            story = story_at(number, 8)
            self.assertEqual(sum(2 ** beat for beat in range(8) if silent_at(story, beat)), number)

    def test_no_story_s_number(self):
        for n in (1, 2, 5, 24):
            for number in (2 ** n, 2 ** n + 1, -1, GREAT, -GREAT, HUGE, -HUGE):
                self.assertEqual(refusal(self, NoNumber, story_at, number, n), {})

    def test_whatever_as_a_number(self):
        for thing in whatever() + wrong_parts():
            if type(thing) is not int:
                self.assertEqual(refusal(self, NoNumber, story_at, thing, 24), {})


class Choices(unittest.TestCase):
    def test_against_all_small_stories(self):
        for n in range(1, 9):
            stories = [story_at(number, n) for number in range(2 ** n)]
            for k in range(n + 3):
                silent = [story for story in stories if silent_many(story, 0, n) == k]
                self.assertEqual(silent_choices(n, k), len(silent))
                self.assertEqual(stretch_choices(n, k), len([story for story in stories if len(story) == k]))
                self.assertEqual(stories_with(n, k), silent)

    def test_great_ones(self):
        for n in (1, 24, 100, 399, 400):
            for k in (0, 1, 2, n // 2, n - 1, n, n + 1):
                self.assertEqual(silent_choices(n, k), math.comb(n, k))
                self.assertEqual(stretch_choices(n, k), math.comb(n + 1, 2 * k))
        self.assertEqual(stretch_choices(400, 200), 401)
        self.assertEqual(stretch_choices(400, 201), 0)
        self.assertEqual(sum(silent_choices(400, k) for k in range(401)), 2 ** 400)
        self.assertEqual(sum(stretch_choices(400, k) for k in range(201)), 2 ** 400)

    def test_however_many(self):
        for n in (1, 24, 400):
            for k in (n + 1, 10 ** 29, GREAT):
                self.assertEqual(silent_choices(n, k), 0)
                self.assertEqual(stretch_choices(n, k), 0)
        self.assertEqual(stories_with(24, GREAT), [])
        self.assertEqual(stories_with(1, 2), [])


class StoriesWith(unittest.TestCase):
    def test_edges(self):
        self.assertEqual(stories_with(1, 0), [()])
        self.assertEqual(stories_with(1, 1), [((0, 1),)])
        self.assertEqual(stories_with(24, 0), [()])
        self.assertEqual(stories_with(24, 24), [((0, 24),)])
        self.assertEqual(stories_with(3, 2), [((0, 2),), ((0, 1), (2, 3)), ((1, 3),)])

    def check_all(self, n, k):
        stories = stories_with(n, k)
        self.assertIs(type(stories), list)
        self.assertEqual(len(stories), math.comb(n, k))
        numbers = [number_of(story) for story in stories]
        self.assertEqual(numbers, sorted(set(numbers)))
        self.assertTrue(all(story_good(story) and healed_at(story) <= n for story in stories))
        self.assertTrue(all(silent_many(story, 0, n) == k for story in stories))

    def test_all_that_are_few_enough(self):
        for n, k in itertools.product(range(1, 25), range(25)):
            many = math.comb(n, k)
            if many <= 300:
                self.check_all(n, k)
            else:
                self.assertEqual(refusal(self, TooGreat, stories_with, n, k), {"many": many, "most": 300})

    def test_three_hundred_and_one_more(self):
        self.check_all(25, 2)
        self.check_all(25, 23)
        self.check_all(300, 1)
        self.check_all(300, 299)
        self.assertEqual(refusal(self, TooGreat, stories_with, 301, 1), {"many": 301, "most": 300})
        self.assertEqual(refusal(self, TooGreat, stories_with, 301, 300), {"many": 301, "most": 300})

    def test_the_list_is_the_asker_s_own(self):
        stories = stories_with(3, 1)
        stories.clear()
        self.assertEqual(stories_with(3, 1), [((0, 1),), ((1, 2),), ((2, 3),)])


class Holds(unittest.TestCase):
    def test_ordinary(self):
        story = ((2, 4), (6, 7))
        self.assertIs(holds(story, ()), True)
        self.assertIs(holds(story, ((2, "silent"),)), True)
        self.assertIs(holds(story, ((2, "sound"),)), False)
        self.assertIs(holds(story, ((9, "sound"), (3, "silent"), (4, "sound"), (3, "silent"))), True)
        self.assertIs(holds(story, ((9, "sound"), (3, "silent"), (4, "silent"))), False)
        self.assertIs(holds(story, ((3, "silent"), (3, "sound"))), False)

    def test_each_beat(self):
        for number in range(32):
            story = story_at(number, 5)
            for beat in range(7):
                self.assertIs(holds(story, ((beat, "silent"),)), silent_at(story, beat))
                self.assertIs(holds(story, ((beat, "sound"),)), not silent_at(story, beat))

    def test_how_many_looks(self):
        self.assertIs(holds((), ((1, "sound"),) * 12), True)
        self.assertIs(holds((), ((1, "sound"),) * 13), False)

    def test_edges_of_beats(self):
        self.assertIs(holds(((LAST - 1, LAST),), ((LAST - 1, "silent"), (0, "sound"))), True)
        self.assertIs(holds((), ((LAST, "sound"),)), False)
        self.assertIs(holds((), ((-1, "sound"),)), False)
        self.assertIs(holds((), ((GREAT, "sound"),)), False)

    def test_whatever(self):
        for thing in whatever():
            self.assertIs(asked_fairly(self, holds, ((0, 1),), thing), thing == (), thing)

    def test_spoiled(self):
        for thing in spoiled(((0, "silent"), (1, "sound"))):
            self.assertIs(asked_fairly(self, holds, ((0, 1),), thing), False, thing)

    def test_other_words(self):
        for word in ("Silent", "SOUND", "silent ", "", "sil", ("silent",), ["sound"], 0, None, True):
            self.assertIs(holds((), ((0, word),)), False)


class StoryFor(unittest.TestCase):
    def test_ordinary(self):
        self.assertEqual(story_for(()), ())
        self.assertEqual(story_for(((5, "sound"),)), ())
        self.assertEqual(story_for(((5, "silent"),)), ((5, 6),))
        self.assertEqual(story_for(((9, "silent"), (5, "silent"))), ((5, 10),))
        self.assertEqual(story_for(((9, "silent"), (7, "sound"), (5, "silent"), (9, "silent"))), ((5, 6), (9, 10)))
        self.assertEqual(story_for(((LAST - 1, "silent"), (0, "silent"))), ((0, LAST),))
        self.assertEqual(story_for(((4, "sound"), (5, "silent"), (6, "sound"))), ((5, 6),))

    def test_none_where_no_story_holds_them(self):
        self.assertIsNone(story_for(((5, "sound"), (5, "silent"))))
        self.assertIsNone(story_for(((5, "silent"), (2, "sound"), (5, "sound"), (9, "silent"))))
        self.assertIsNone(story_for(((4, "silent"), (5, "sound"), (5, "silent"), (6, "silent"))))

    def test_against_all_small_stories(self):
        mixer = random.Random(7)
        stories = [story_at(number, 5) for number in range(32)]
        for words in itertools.product((None, "silent", "sound", "both"), repeat=5):
            looks = []
            for beat, word in enumerate(words):
                looks += [(beat, told) for told in ("silent", "sound") if word in (told, "both")]
            looks += looks[:2]
            mixer.shuffle(looks)
            looks = tuple(looks)
            fit = [story for story in stories if holds(story, looks)]
            wanted = min(fit, key=lambda story: (len(story), silent_many(story, 0, 5)), default=None)
            self.assertEqual(asked_fairly(self, story_for, looks), wanted, looks)

    def test_twelve_and_thirteen(self):
        looks = tuple((beat, ("silent", "sound")[beat % 2]) for beat in range(12))
        self.assertEqual(story_for(looks), story_of([0, 2, 4, 6, 8, 10]))
        self.assertEqual(refusal(self, NoStep, story_for, looks + ((12, "silent"),)), {})
        self.assertEqual(refusal(self, NoStep, story_for, ((0, "silent"),) * 13), {})

    def test_refused_looks(self):
        for looks in (
            ((LAST, "silent"),), ((-1, "silent"),), ((0, "quiet"),), ((0,),), (("silent", 0),), (0, "silent"),
            [(0, "silent")], ((0, "silent", 1),), ((True, "silent"),), ((0, "sound"), (0, "silent"), (0, "x")),
        ):
            self.assertEqual(refusal(self, NoStep, story_for, looks), {})

    def test_refused_whatever(self):
        for thing in whatever():
            if thing != ():
                self.assertEqual(refusal(self, NoStep, story_for, thing), {})

    def test_refused_spoiled(self):
        for thing in spoiled(((0, "silent"), (1, "sound"))):
            self.assertEqual(refusal(self, NoStep, story_for, thing), {})


if __name__ == "__main__":
    unittest.main()
