"""Points 3.1 to 3.6."""

import itertools
import random
import unittest

from knockpurse.asking import (
    hardest, knocks_of, least_silence, lost_many, plan_good, run_good, run_of, served_by, widest_of,
)
from knockpurse.gaps import sum_of
from knockpurse.stories import either, healed_at, silent_at, silent_many, story_at, story_good, story_of
from tests.things import GREAT, asked_fairly, spoiled, whatever

SLOW = (3, 2, 1, 50)
EACH = (1, 1, 0, 1)
WIDEST = (1000, 1, 0, 1000)
SMALL = [
    (gaps, knocks, time)
    for gaps in (EACH, (2, 1, 0, 9), (1, 2, 0, 3), (1, 1, 1, 9), (3, 1, 0, 2))
    for knocks in (1, 2, 3, 5)
    for time in (0, 1, 2, 3, 4, 7, 20)
]
PLANS = SMALL + [
    (SLOW, 200, 400000), (SLOW, 200, 100), (SLOW, 7, 156), (SLOW, 7, 155), (EACH, 200, 400000), (EACH, 200, 198),
    (WIDEST, 200, 400000), (WIDEST, 200, 198999), ((1, 1, 1, 1000), 200, 400000), (WIDEST, 5, 999), (EACH, 1, 0),
]


def run_step_by_step(plan, silent, begin):
    """The run, straight out of point 3.1's words; silent tells whether the house is at a beat."""
    (first, times, more, most), knocks, time = plan
    beats, gap = [begin], min(first, most)
    while silent(beats[-1]):
        if len(beats) == knocks:
            return tuple(beats), "knocks"
        if beats[-1] + gap > begin + time:
            return tuple(beats), "time"
        beats.append(beats[-1] + gap)
        gap = min(times * gap + more, most)
    return tuple(beats), "served"


def lost(plan, story, begin):
    return run_of(plan, story, begin)[1] != "served"


class PlanGood(unittest.TestCase):
    def test_edges(self):
        for knocks, time, wanted in (
            (1, 0, True), (200, 400000, True), (0, 0, False), (201, 0, False), (1, -1, False), (1, 400001, False),
            (-1, 5, False), (GREAT, 5, False), (5, GREAT, False),
        ):
            self.assertIs(plan_good((SLOW, knocks, time)), wanted)

    def test_gaps_must_be_good(self):
        self.assertIs(plan_good(((0, 1, 0, 1), 1, 0)), False)
        self.assertIs(plan_good(((1, 11, 0, 1), 1, 0)), False)
        self.assertIs(plan_good(((1000, 10, 1000, 1000), 1, 0)), True)

    def test_whatever(self):
        for thing in whatever():
            self.assertIs(asked_fairly(self, plan_good, thing), False, thing)

    def test_spoiled(self):
        for thing in spoiled((EACH, 1, 1)):
            self.assertIs(asked_fairly(self, plan_good, thing), False, thing)
        for thing in ((EACH, 1), (EACH,), (), (1, EACH, 1), EACH):
            self.assertIs(plan_good(thing), False, thing)


class Knocks(unittest.TestCase):
    def test_named_ones(self):
        self.assertEqual(knocks_of((SLOW, 5, 400), 10), [10, 13, 20, 35, 66])
        self.assertEqual(knocks_of((SLOW, 5, 25), 10), [10, 13, 20, 35])
        self.assertEqual(knocks_of((SLOW, 5, 24), 10), [10, 13, 20])
        self.assertEqual(knocks_of((SLOW, 5, 0), 10), [10])
        self.assertEqual(knocks_of((SLOW, 1, 400), 0), [0])

    def test_step_by_step(self):
        for plan, begin in itertools.product(PLANS, (0, 1, 17, 400000)):
            wanted = run_step_by_step(plan, lambda beat: True, begin)[0]
            self.assertEqual(knocks_of(plan, begin), list(wanted))

    def test_greatest_plan(self):
        beats = knocks_of((WIDEST, 200, 400000), 400000)
        self.assertEqual((len(beats), beats[-1]), (200, 599000))
        beats = knocks_of(((1000, 10, 1000, 1000), 200, 198999), 0)
        self.assertEqual((len(beats), beats[-1]), (199, 198000))

    def test_the_list_is_the_asker_s_own(self):
        beats = knocks_of((EACH, 3, 9), 0)
        self.assertIs(type(beats), list)
        beats.clear()
        self.assertEqual(knocks_of((EACH, 3, 9), 0), [0, 1, 2])


class Runs(unittest.TestCase):
    def test_named_ones(self):
        plan = (SLOW, 4, 25)
        self.assertEqual(run_of(plan, (), 10), ((10,), "served"))
        self.assertEqual(run_of(plan, ((0, 13),), 10), ((10, 13), "served"))
        self.assertEqual(run_of(plan, ((0, 14),), 10), ((10, 13, 20), "served"))
        self.assertEqual(run_of(plan, ((0, 35),), 10), ((10, 13, 20, 35), "served"))
        self.assertEqual(run_of(plan, ((0, 36),), 10), ((10, 13, 20, 35), "knocks"))
        self.assertEqual(run_of((SLOW, 5, 25), ((0, 36),), 10), ((10, 13, 20, 35), "time"))
        self.assertEqual(run_of((SLOW, 4, 24), ((0, 36),), 10), ((10, 13, 20), "time"))
        self.assertEqual(run_of((SLOW, 1, 0), ((0, 1),), 0), ((0,), "knocks"))
        self.assertEqual(run_of((SLOW, 2, 0), ((0, 1),), 0), ((0,), "time"))
        self.assertEqual(run_of(plan, ((11, 13), (14, 40)), 10), ((10,), "served"))

    def test_step_by_step(self):
        for plan, number, begin in itertools.product(SMALL, range(64), (0, 2)):
            story = story_at(number, 6)
            wanted = run_step_by_step(plan, lambda beat: silent_at(story, beat), begin)
            self.assertEqual(run_of(plan, story, begin), wanted)

    def test_great_ones(self):
        for plan in PLANS:
            for begin in (0, 400000):
                for story in ((), ((0, 1000000),), ((300000, 400500),), ((0, 500), (399000, 500000))):
                    wanted = run_step_by_step(plan, lambda beat: silent_at(story, beat), begin)
                    self.assertEqual(run_of(plan, story, begin), wanted)

    def test_run_good_of_runs(self):
        runs = {run_of(plan, story_at(number, 6), 0) for plan in SMALL for number in (0, 1, 3, 5, 63)}
        for plan, number in itertools.product(SMALL[::5], (0, 1, 3, 5, 63)):
            story = story_at(number, 6)
            for run in runs:
                self.assertIs(run_good(plan, story, 0, run), run == run_of(plan, story, 0))

    def test_run_good_of_whatever(self):
        for thing in whatever():
            self.assertIs(asked_fairly(self, run_good, (EACH, 3, 9), ((0, 1),), 0, thing), False, thing)

    def test_run_good_of_spoiled(self):
        for plan, story, begin in (
            ((EACH, 3, 9), ((0, 9),), 0), ((EACH, 3, 1), ((0, 9),), 0), ((EACH, 3, 9), ((0, 1),), 0), ((EACH, 3, 9), (), 1),
        ):
            run = run_of(plan, story, begin)
            self.assertIs(run_good(plan, story, begin, run), True)
            for thing in spoiled(run):
                self.assertIs(asked_fairly(self, run_good, plan, story, begin, thing), False, thing)

    def test_run_good_of_near_ones(self):
        plan, story = (EACH, 3, 9), ((0, 2),)
        self.assertIs(run_good(plan, story, 0, ((0, 1, 2), "served")), True)
        for thing in (
            ((0, 1, 2), "knocks"), ((0, 1), "served"), ((0, 1, 2, 3), "served"), ((1, 2, 3), "served"), ((), "served"),
            ((False, True, 2), "served"), ((0, True, 2), "served"), ([0, 1, 2], "served"), [(0, 1, 2), "served"],
            ("served", (0, 1, 2)), ((0, 1, 2),), ((0, 1, 2), "served", None), ((0, 1, 2), ["served"]), ("012", "served"),
        ):
            self.assertIs(run_good(plan, story, 0, thing), False, thing)


class ServedBy(unittest.TestCase):
    def test_named_ones(self):
        plan = (SLOW, 4, 25)
        for h, wanted in ((0, 10), (10, 10), (11, 13), (13, 13), (14, 20), (35, 35), (36, None), (1000000, None)):
            self.assertEqual(served_by(plan, 10, h), wanted, h)

    def test_against_all_that_may_be_ahead(self):
        for plan, begin, h in itertools.product(SMALL, (0, 2), range(7)):
            runs = [run_of(plan, story_at(number, 6), begin) for number in range(2 ** h)]
            latest = max(beats[-1] for beats, end in runs)
            wanted = latest if all(end == "served" for beats, end in runs) else None
            self.assertEqual(served_by(plan, begin, h), wanted, (plan, begin, h))

    def test_no_later_than_widest_of_tells(self):
        for plan, begin in itertools.product(PLANS, (0, 5, 400000)):
            for h in (0, 1, 3, 6, 57, 999, 1001, 100000, 400000, 400007, 598500, 1000000):
                served = served_by(plan, begin, h)
                if served is not None:
                    self.assertLessEqual(served, max(h, begin) + max(0, widest_of(plan) - 1))

    def test_widest_of(self):
        for plan, wanted in (
            ((SLOW, 1, 400), 0), ((SLOW, 2, 2), 0), ((SLOW, 2, 3), 3), ((SLOW, 4, 25), 15), ((SLOW, 4, 24), 7),
            ((SLOW, 200, 400000), 50), ((WIDEST, 200, 400000), 1000), ((WIDEST, 200, 999), 0), ((EACH, 200, 0), 0),
            (((1, 1, 1, 1000), 200, 400000), 199),
        ):
            self.assertEqual(widest_of(plan), wanted, plan)

    def test_widest_of_is_reached(self):
        for plan in PLANS:
            beats = knocks_of(plan, 0)
            if len(beats) > 1:
                self.assertEqual(widest_of(plan), max(beat - ahead for ahead, beat in zip(beats, beats[1:])))
                self.assertEqual(served_by(plan, 0, beats[-2] + 1), beats[-2] + widest_of(plan))


class Hardest(unittest.TestCase):
    def test_least_silence(self):
        for plan, wanted in (
            ((SLOW, 1, 0), 1), ((SLOW, 4, 25), 26), ((SLOW, 4, 24), 11), ((EACH, 200, 400000), 200),
            ((WIDEST, 200, 400000), 199001), ((WIDEST, 200, 198999), 198001),
        ):
            self.assertEqual(least_silence(plan), wanted, plan)

    def test_least_silence_is_least(self):
        for plan in SMALL:
            lengths = [
                last - first
                for begin, first, last in itertools.product(range(3), range(30), range(30))
                if first < last and lost(plan, ((first, last),), begin)
            ]
            self.assertEqual(least_silence(plan), min(lengths), plan)

    def test_least_silence_of_great_plans(self):
        for plan in PLANS:
            for begin in (0, 7, 400000):
                end = begin + least_silence(plan)
                self.assertTrue(lost(plan, ((begin, end),), begin))
                if end - 1 > begin:
                    self.assertFalse(lost(plan, ((begin, end - 1),), begin))

    def test_hardest_named(self):
        self.assertEqual(hardest((SLOW, 4, 25), 10), ((10, 11), (13, 14), (20, 21), (35, 36)))
        self.assertEqual(hardest((EACH, 4, 25), 10), ((10, 14),))
        self.assertEqual(hardest(((1, 1, 1, 9), 3, 25), 0), ((0, 2), (3, 4)))
        self.assertEqual(hardest((SLOW, 1, 0), 400000), ((400000, 400001),))

    def test_hardest_has_the_fewest_silent_beats(self):
        for plan in SMALL:
            if least_silence(plan) <= 8:
                losing = [story_at(number, 8) for number in range(256)]
                losing = [story for story in losing if lost(plan, story, 0)]
                fewest = min(silent_many(story, 0, 8) for story in losing)
                self.assertEqual([hardest(plan, 0)], [one for one in losing if silent_many(one, 0, 8) == fewest])

    def test_hardest_of_great_plans(self):
        for plan, begin in itertools.product(PLANS, (0, 3, 400000)):
            story = hardest(plan, begin)
            self.assertTrue(story_good(story))
            self.assertTrue(lost(plan, story, begin))
            self.assertEqual(story, story_of(knocks_of(plan, begin)))
        self.assertEqual(len(hardest((WIDEST, 200, 400000), 0)), 200)

    def test_served_with_any_one_stretch_left_out(self):
        for plan, begin in itertools.product(PLANS, (0, 3, 400000)):
            story = hardest(plan, begin)
            for at in range(len(story)):
                self.assertFalse(lost(plan, story[:at] + story[at + 1:], begin))


class LostMany(unittest.TestCase):
    def test_named_ones(self):
        self.assertEqual(lost_many((SLOW, 3, 100), 12, 4), 9)
        self.assertEqual(lost_many((SLOW, 3, 100), 11, 3), 1)
        self.assertEqual(lost_many((SLOW, 3, 100), 10, 10), 0)
        self.assertEqual(lost_many((SLOW, 3, 100), 200, 2), 0)
        self.assertEqual(lost_many((SLOW, 1, 0), 0, 0), 0)
        self.assertEqual(lost_many((SLOW, 1, 0), 1, 1), 1)
        self.assertEqual(lost_many((SLOW, 1, 0), 1, 0), 0)

    def test_against_all_stories(self):
        for plan in SMALL:
            for n in range(9):
                for begin in (0, 3):
                    counts = [0] * (n + 1)
                    for number in range(2 ** n):
                        beats = [begin + beat for beat in range(n) if number >> beat & 1]
                        counts[len(beats)] += lost(plan, story_of(beats), begin)
                    self.assertEqual([lost_many(plan, n, m) for m in range(n + 1)], counts, (plan, n))

    def test_two_hundred_beats(self):
        self.assertEqual(lost_many((EACH, 200, 400000), 200, 200), 1)
        self.assertEqual(lost_many((EACH, 200, 400000), 200, 199), 0)
        self.assertEqual(lost_many((EACH, 200, 400000), 199, 199), 0)
        for plan in PLANS:
            knocks = len(knocks_of(plan, 0))
            total = sum(lost_many(plan, 200, m) for m in range(201))
            self.assertEqual(total, 2 ** (200 - knocks) if least_silence(plan) <= 200 else 0)


class Together(unittest.TestCase):
    def test_more_silent_beats_never_serve(self):
        for plan, number, more in itertools.product(SMALL[::3], range(64), range(64)):
            if number & more == 0:
                one, further = story_at(number, 6), story_at(more, 6)
                if lost(plan, one, 0):
                    self.assertTrue(lost(plan, either(one, further), 0))

    def test_more_knocks_or_more_time_lose_no_more(self):
        mixer = random.Random(3)
        for gaps, knocks, time in PLANS:
            for _ in range(20):
                story = story_of([mixer.randrange(12) for _ in range(mixer.randrange(15))])
                if not lost((gaps, knocks, time), story, 0):
                    for plan in ((gaps, knocks + 1, time), (gaps, knocks, time + 1), (gaps, knocks + 9, time + 999)):
                        self.assertEqual(run_of(plan, story, 0), run_of((gaps, knocks, time), story, 0))

    def test_an_asking_is_served_once_the_house_is_healed(self):
        for plan, number in itertools.product(SMALL, range(64)):
            story = story_at(number, 6)
            by = served_by(plan, 0, healed_at(story))
            if by is not None:
                self.assertFalse(lost(plan, story, 0))
                self.assertLessEqual(run_of(plan, story, 0)[0][-1], by)

    def test_knocks_are_as_far_apart_as_the_gaps_tell(self):
        for plan in PLANS:
            for k, beat in enumerate(knocks_of(plan, 0)):
                self.assertEqual(beat, sum_of(plan[0], k))


if __name__ == "__main__":
    unittest.main()
