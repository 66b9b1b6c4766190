"""Points 9.1 to 9.5."""

import itertools
import math
import random
import unittest

from knockpurse.asking import run_of
from knockpurse.errors import NoNumber
from knockpurse.rows import beats_needed, calm_row, go_down, go_good, most_down, once_at, row_good
from knockpurse.stories import silent_at, story_of
from tests.things import GREAT, HUGE, asked_fairly, refusal, spoiled, whatever

EACH = (1, 1, 0, 1)
SLOW = (3, 2, 1, 50)
LONG = ((0, 1000000),)
FAR = 400000
GREATEST = (((1000, 10, 1000, 1000), 6, FAR),) * 4
LEAST = ((EACH, 1, 0),)
TWO = ((SLOW, 2, 20), (EACH, 3, 9))
ROWS = [
    LEAST, LEAST * 4, TWO, TWO[::-1], TWO + TWO, ((SLOW, 6, FAR),), ((EACH, 6, FAR),) * 4, ((EACH, 6, 0),) * 3,
    ((EACH, 2, 1), (EACH, 6, 3)), ((EACH, 6, 3), (EACH, 2, 1)), ((SLOW, 1, FAR), (EACH, 6, FAR)), ((EACH, 6, FAR), (SLOW, 1, FAR)),
    ((EACH, 3, 100), (SLOW, 3, 9), (EACH, 2, 0)), (((2, 1, 0, 2), 2, 7), ((1, 3, 0, 9), 3, 6), (EACH, 2, 1), ((1, 1, 1, 3), 3, 4)),
]


def random_row(mixer):
    row = []
    for _ in range(mixer.randrange(1, 5)):
        gaps = (mixer.randrange(1, 5), mixer.randrange(1, 4), mixer.randrange(3), mixer.randrange(1, 15))
        row.append((gaps, mixer.randrange(1, 5), mixer.choice((0, 1, 2, 3, 5, 9, 20, 60, FAR))))
    return tuple(row)


def rows(seed, many):
    mixer = random.Random(seed)
    return ROWS + [random_row(mixer) for _ in range(many)]


def samples(seed, many):
    mixer = random.Random(seed)
    for row in rows(seed, many):
        span = mixer.choice((3, 10, 40, 200))
        stretched = [mixer.randrange(span) for _ in range(mixer.randrange(2 * span))]
        for story in ((), LONG, story_of(stretched), story_of(list(range(mixer.randrange(span))))):
            yield row, story, mixer.choice((0, 1, 7, 400000))


def gap_by_words(gaps, k):
    first, times, more, most = gaps
    gap = min(first, most)
    for _ in range(k - 1):
        gap = min(times * gap + more, most)
    return gap


def knock_by_knock(row, silent, begin):
    """What go_down tells, with all askings that go on in one pile, straight out of point 9.1's words."""
    pile, beats, counts, beat = [], [], [0] * len(row), begin
    while True:
        # Each asking that begins at this beat knocks at it, and so does the one that it is a knock of.
        while len(pile) < len(row):
            latest = beat + row[len(pile)][2]
            if pile:
                latest = min(latest, pile[-1]["latest"])
            counts[len(pile)] += 1
            pile.append({"latest": latest, "made": 1})
        beats.append(beat)
        if not silent(beat):
            return ("served", beat), tuple(beats), tuple(counts)
        while pile:
            gaps, knocks, _ = row[len(pile) - 1]
            due = beat + gap_by_words(gaps, pile[-1]["made"])
            if pile[-1]["made"] < knocks and due <= pile[-1]["latest"]:
                pile[-1]["made"] += 1
                counts[len(pile) - 1] += 1
                beat = due
                break
            pile.pop()
        if not pile:
            return ("lost", beat), tuple(beats), tuple(counts)


def with_times(row, time):
    return tuple((gaps, knocks, time) for gaps, knocks, _ in row)


def silent_house(beat):
    return True


class RowGood(unittest.TestCase):
    def test_edges(self):
        for row in ROWS + [GREATEST, ((SLOW, 6, 0),), ((SLOW, 1, FAR),) * 4]:
            self.assertIs(asked_fairly(self, row_good, row), True, row)
        for thing in (
            (), LEAST * 5, GREATEST + LEAST, ((SLOW, 7, 5),), ((SLOW, 200, 5),), ((SLOW, 0, 5),), ((SLOW, 6, FAR + 1),), ((SLOW, 6, -1),),
            ((SLOW, 2, 5), (SLOW, 7, 5)), ((SLOW, 7, 5), (SLOW, 2, 5)), LEAST * 3 + ((SLOW, 7, 5),), (((0, 1, 0, 1), 2, 5),),
            (SLOW, 2, 5), [LEAST[0]], list(TWO), (list(TWO[0]), TWO[1]), ((list(SLOW), 2, 5),), ((SLOW, True, 5),), ((SLOW, 2, False),),
            ((SLOW, HUGE, 5),), ((SLOW, 2, HUGE),), (TWO,), ((SLOW, 2),), ((SLOW, 2, 5, 5),), TWO + ((),), TWO + (None,), (EACH,),
        ):
            self.assertIs(asked_fairly(self, row_good, thing), False, thing)

    def test_whatever(self):
        for thing in whatever():
            self.assertIs(asked_fairly(self, row_good, thing), False, thing)
            self.assertIs(asked_fairly(self, row_good, (thing,)), False, thing)
            self.assertIs(asked_fairly(self, row_good, TWO + (thing,)), False, thing)

    def test_spoiled(self):
        for thing in spoiled(((EACH, 2, 2), (EACH, 3, 3))):
            self.assertIs(asked_fairly(self, row_good, thing), False, thing)


class GoDown(unittest.TestCase):
    def test_named_ones(self):
        for row, story, begin, wanted in (
            (LEAST, (), 5, (("served", 5), (5,), (1,))), (LEAST, LONG, 5, (("lost", 5), (5,), (1,))),
            (LEAST * 4, LONG, 5, (("lost", 5), (5,), (1, 1, 1, 1))), (TWO, (), 0, (("served", 0), (0,), (1, 1))),
            # The first knock is silent at 2, so the next one comes at 5.
            (TWO, LONG, 0, (("lost", 7), (0, 1, 2, 5, 6, 7), (2, 6))), (TWO, ((0, 2),), 0, (("served", 2), (0, 1, 2), (1, 3))),
            (TWO, ((0, 6),), 10, (("served", 10), (10,), (1, 1))), (TWO, ((10, 13), (14, 15)), 10, (("served", 15), (10, 11, 12, 15), (2, 4))),
            (TWO[::-1], LONG, 0, (("lost", 8), (0, 3, 4, 7, 8), (3, 5))),
            # The own time, and the asker's time, end it.
            (((SLOW, 2, 20), (EACH, 3, 1)), LONG, 0, (("lost", 5), (0, 1, 4, 5), (2, 4))),
            (((SLOW, 2, 6), (EACH, 3, 9)), LONG, 0, (("lost", 6), (0, 1, 2, 5, 6), (2, 5))),
            (((SLOW, 2, 5), (EACH, 3, 9)), LONG, 0, (("lost", 5), (0, 1, 2, 5), (2, 4))),
            (((SLOW, 2, 4), (EACH, 3, 9)), LONG, 0, (("lost", 2), (0, 1, 2), (1, 3))),
            (((SLOW, 2, 1), (EACH, 3, 9)), LONG, 0, (("lost", 1), (0, 1), (1, 2))),
            (((SLOW, 2, 0), (EACH, 3, 9)), LONG, 0, (("lost", 0), (0,), (1, 1))),
            # The asker knocks but once, and its asking goes on as long as it might knock.
            (((SLOW, 1, 2), (EACH, 6, 9)), LONG, 3, (("lost", 5), (3, 4, 5), (1, 3))),
            # The time of the first plan ends what the third one does, too.
            (((SLOW, 1, 2), (EACH, 1, 9), (EACH, 6, 9)), LONG, 3, (("lost", 5), (3, 4, 5), (1, 1, 3))),
            (((SLOW, 1, 9), (EACH, 1, 2), (EACH, 6, 9)), LONG, 3, (("lost", 5), (3, 4, 5), (1, 1, 3))),
            (((EACH, 2, 9), (EACH, 2, 9), (EACH, 2, 9)), LONG, 0, (("lost", 7), tuple(range(8)), (2, 4, 8))),
            (((EACH, 2, 9), (EACH, 2, 9), (EACH, 2, 9)), ((0, 5),), 0, (("served", 5), tuple(range(6)), (2, 3, 6))),
        ):
            self.assertEqual(asked_fairly(self, go_down, row, story, begin), wanted, (row, story, begin))

    def test_gaps_begin_anew_with_each_asking(self):
        row = ((EACH, 2, 99), (SLOW, 3, 99))
        self.assertEqual(go_down(row, LONG, 0)[1], (0, 3, 10, 11, 14, 21))

    def test_knock_by_knock(self):
        ends = set()
        for row, story, begin in samples(92, 150):
            told = asked_fairly(self, go_down, row, story, begin)
            self.assertEqual(repr(told), repr(knock_by_knock(row, lambda beat: silent_at(story, beat), begin)))
            ends.add((told[0][0], len(row)))
        self.assertEqual(ends, set(itertools.product(("served", "lost"), (1, 2, 3, 4))))

    def test_the_greatest_row(self):
        for time in (0, 1000, 300000, FAR):
            row = with_times(GREATEST, time)
            self.assertEqual(go_down(row, LONG, 0), knock_by_knock(row, silent_house, 0))
        told = go_down(((EACH, 6, FAR),) * 4, LONG, FAR)
        self.assertEqual((told[0], told[2]), (("lost", FAR + 1295), (6, 36, 216, 1296)))
        self.assertEqual(told[1], tuple(range(FAR, FAR + 1296)))

    def test_many_stretches(self):
        comb = tuple((2 * at, 2 * at + 1) for at in range(200))
        row = (((2, 1, 0, 2), 6, FAR),) * 3
        self.assertEqual(go_down(row, comb, 0), knock_by_knock(row, lambda beat: silent_at(comb, beat), 0))
        self.assertEqual(go_down(row, comb, 0)[0], ("served", 400))

    def test_go_good(self):
        asked = list(samples(921, 10))
        told = [go_down(*question) for question in asked]
        for question, thing in itertools.product(asked[::2], told):
            self.assertIs(asked_fairly(self, go_good, *question, thing), thing == go_down(*question))

    def test_go_good_of_near_ones(self):
        right = (("lost", 1), (0, 1), (1, 2))
        row = ((EACH, 1, 9), (EACH, 2, 9))
        self.assertIs(asked_fairly(self, go_good, row, LONG, 0, right), True)
        for thing in (
            list(right), (["lost", 1], (0, 1), (1, 2)), (("lost", 1), [0, 1], (1, 2)), (("lost", 1), (0, 1), [1, 2]), right[:2], right + ((),),
            (("served", 1), (0, 1), (1, 2)), (("lost", 0), (0, 1), (1, 2)), (("lost", True), (0, 1), (1, 2)), (("lost", 1), (False, 1), (1, 2)),
            (("lost", 1), (0, True), (1, 2)), (("lost", 1), (0, 1), (True, 2)), (("lost", 1), (0, 1), (1, 2, 2)), (("lost", 1), (0,), (1, 2)),
            (("lost", 1), (0, 1, 2), (1, 2)), (("lost", 1), (1, 0), (1, 2)), (("lost", 1), (0, 1), (2, 1)), (("lost", 1), (0, 1), (1, 1)),
            (("lost",), (0, 1), (1, 2)), (("lost", 1, 1), (0, 1), (1, 2)), ("lost", 1), right[::-1], (right,), (), None,
        ):
            self.assertIs(asked_fairly(self, go_good, row, LONG, 0, thing), False, thing)

    def test_go_good_of_whatever_and_spoiled(self):
        for row, story in ((LEAST, ()), (LEAST, LONG), (((EACH, 1, 9), (EACH, 2, 9)), LONG)):
            for thing in whatever():
                self.assertIs(asked_fairly(self, go_good, row, story, 3, thing), False, thing)
            for thing in spoiled(go_down(row, story, 3)):
                self.assertIs(asked_fairly(self, go_good, row, story, 3, thing), False, thing)


class Most(unittest.TestCase):
    def test_named_ones(self):
        for row, most, needed in (
            (LEAST, 1, 0), (LEAST * 4, 1, 0), (TWO, 6, 7), (TWO[::-1], 6, 11), (((SLOW, 6, 0),), 6, 106), (((EACH, 6, 0),) * 4, 1296, 1295),
            (GREATEST, 1296, 1295000), (((SLOW, 1, 0), (EACH, 6, 0)), 6, 5), (((EACH, 6, 0), (SLOW, 1, 0)), 6, 5),
            ((((1000, 1, 0, 1000), 2, 0), (EACH, 3, 0), (SLOW, 2, 0)), 12, 1022),
        ):
            self.assertEqual(asked_fairly(self, most_down, row), most, row)
            self.assertEqual(asked_fairly(self, beats_needed, row), needed, row)

    def test_the_times_count_for_nothing(self):
        for row in rows(931, 20):
            for time in (0, 5, FAR):
                self.assertEqual(most_down(with_times(row, time)), most_down(row))
                self.assertEqual(beats_needed(with_times(row, time)), beats_needed(row))

    def test_tried_time_by_time(self):
        for row in rows(93, 60):
            self.assertEqual(most_down(row), math.prod(knocks for _, knocks, _ in row))
            needed = beats_needed(row)
            if needed < 400:
                times = [time for time in range(needed + 3) if len(knock_by_knock(with_times(row, time), silent_house, 0)[1]) == most_down(row)]
                self.assertEqual(times, [needed, needed + 1, needed + 2])

    def test_just_beats_needed_and_one_beat_less(self):
        for row in rows(932, 100):
            needed, most = beats_needed(row), most_down(row)
            if needed < 300000:
                for time, begin in itertools.product((needed, needed + 1, FAR), (0, 9)):
                    told = go_down(with_times(row, time), LONG, begin)
                    self.assertEqual(len(told[1]), most)
                    self.assertEqual(told[0], ("lost", begin + needed))
                if needed > 0:
                    self.assertLess(len(go_down(with_times(row, needed - 1), LONG, 0)[1]), most)

    def test_times_that_are_that_or_more(self):
        mixer = random.Random(933)
        for row in rows(934, 60):
            needed = beats_needed(row)
            longer = tuple((gaps, knocks, needed + mixer.randrange(3)) for gaps, knocks, _ in row)
            # The house is silent just long enough.
            self.assertEqual(len(go_down(longer, ((5, 5 + needed + 1),), 5)[1]), most_down(row))


class CalmRow(unittest.TestCase):
    def test_named_ones(self):
        row = ((EACH, 2, 9), (EACH, 6, 9), (EACH, 3, 9), (EACH, 1, 9))
        for most, wanted in (
            (36, ()), (37, ()), (35, (0,)), (18, (0,)), (17, (1,)), (12, (1,)), (11, (1,)), (6, (1,)), (5, (0, 1)), (3, (0, 1)), (2, (1, 2)),
            (1, (0, 1, 2)), (GREAT, ()),
        ):
            self.assertEqual(asked_fairly(self, calm_row, row, most), wanted, most)
        self.assertEqual(calm_row(LEAST * 4, 1), ())
        self.assertEqual(calm_row(((EACH, 6, 9),), 5), (0,))
        self.assertEqual(calm_row(((EACH, 6, 9),), 6), ())
        self.assertEqual(calm_row(GREATEST, 1), (0, 1, 2, 3))
        self.assertEqual(calm_row(GREATEST, 6), (0, 1, 2))
        self.assertEqual(calm_row(GREATEST, 36), (0, 1))
        self.assertEqual(calm_row(GREATEST, 1295), (0,))
        # The fewest go first, though others are ahead of them as tuples compare.
        self.assertEqual(calm_row(((EACH, 2, 9), (EACH, 2, 9), (EACH, 5, 9)), 4), (2,))

    def test_choice_by_choice(self):
        for row in rows(94, 60):
            for most in range(1, most_down(row) + 2) if most_down(row) < 200 else (1, 2, 5, 6, 7, 36, 100, 300, 1295, 1296):
                told = asked_fairly(self, calm_row, row, most)
                wanted = None
                for many in range(len(row) + 1):
                    for places in itertools.combinations(range(len(row)), many):
                        if wanted is None and math.prod(knocks for at, (_, knocks, _) in enumerate(row) if at not in places) <= most:
                            wanted = places
                self.assertEqual(told, wanted)
                self.assertLessEqual(most_down(once_at(row, told)), most)

    def test_once_at(self):
        one, other = TWO
        for places, wanted in (
            ((), TWO), ((0,), ((SLOW, 1, 20), other)), ((1,), (one, (EACH, 1, 9))), ((0, 1), ((SLOW, 1, 20), (EACH, 1, 9))),
        ):
            self.assertEqual(asked_fairly(self, once_at, TWO, places), wanted)
        self.assertEqual(once_at(GREATEST, (0, 1, 2, 3)), tuple((gaps, 1, time) for gaps, _, time in GREATEST))
        self.assertEqual(once_at(GREATEST, (1, 3))[::2], GREATEST[::2])

    def test_once_at_of_what_is_no_such_tuple(self):
        for places in (
            (2,), (-1,), (0, 2), (1, 0), (0, 0), (1, 1), (0, 1, 1), (0, 1, 2), (True,), (False,), (0, True), (False, 1), [0], [], {}, {0: 1},
            "", "0", "01", None, 0, 1, True, False, ((0,),), (None,), ("0",), ([0],), (HUGE,), (-HUGE,), (0, HUGE), HUGE,
        ):
            self.assertEqual(refusal(self, NoNumber, once_at, TWO, places), {}, places)

    def test_once_at_of_whatever(self):
        for thing in whatever():
            good = repr(thing) in ("()", "(0,)")
            if not good:
                self.assertEqual(refusal(self, NoNumber, once_at, LEAST, thing), {}, thing)
            else:
                self.assertEqual(once_at(LEAST, thing), LEAST)
        self.assertEqual(once_at(TWO + TWO, (0, 1, 2))[3], TWO[1])
        self.assertEqual(refusal(self, NoNumber, once_at, LEAST, (1,)), {})
        for thing in spoiled((0, 1)):
            if repr(thing) != "(0, 0)":
                self.assertEqual(refusal(self, NoNumber, once_at, TWO, thing), {}, thing)


class Together(unittest.TestCase):
    def test_a_row_of_one_plan_goes_as_its_run(self):
        for row, story, begin in samples(95, 60):
            for plan in row:
                beats, end = run_of(plan, story, begin)
                word = "served" if end == "served" else "lost"
                self.assertEqual(go_down((plan,), story, begin), ((word, beats[-1]), beats, (len(beats),)))

    def test_of_all_goings(self):
        for row, story, begin in samples(951, 100):
            (word, last), beats, counts = go_down(row, story, begin)
            self.assertEqual(beats[0], begin)
            self.assertEqual(beats[-1], last)
            self.assertLessEqual(last, begin + row[0][2])
            self.assertEqual(list(beats), sorted(set(beats)))
            self.assertEqual(list(counts), sorted(counts))
            self.assertEqual(len(beats), counts[-1])
            self.assertLessEqual(len(beats), most_down(row))
            for ahead, count, (_, knocks, _) in zip((1,) + counts, counts, row):
                self.assertLessEqual(count, knocks * ahead)
            self.assertTrue(all(silent_at(story, beat) for beat in beats[:-1]))
            self.assertIs(silent_at(story, last), word == "lost")

    def test_those_that_knock_but_once_leave_the_others(self):
        for row in rows(952, 30):
            places = tuple(range(1, len(row)))
            story = ((0, 1000000),)
            told = go_down(once_at(row, places), story, 0)
            self.assertEqual(told[1], run_of(row[0], story, 0)[0])


class SomewhatBeyond(unittest.TestCase):
    def test_nothing_is_refused(self):
        for row in (((EACH, 2, 99),) * 5, ((EACH, 7, 99), (SLOW, 8, 99))):
            self.assertEqual(go_down(row, LONG, 0), knock_by_knock(row, silent_house, 0))
            self.assertEqual(most_down(row), math.prod(knocks for _, knocks, _ in row))
            self.assertEqual(most_down(once_at(row, calm_row(row, 8))), 8)


if __name__ == "__main__":
    unittest.main()
