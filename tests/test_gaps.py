"""Points 1.1 to 1.4."""

import itertools
import unittest

from knockpurse.errors import NoNumber
from knockpurse.gaps import (
    beats_of, first_less, gap_at, gaps_good, knocks_within, settled_at, shaken, shakes_for, sum_of,
)
from tests.things import GREAT, HUGE, asked_fairly, refusal, spoiled, whatever, wrong_parts

BOUNDS = ((1, 1000), (1, 10), (0, 1000), (1, 1000))
SAMPLE = [
    (1, 1, 0, 1), (1, 1, 0, 1000), (1, 1, 1, 1000), (1, 1, 1, 999), (1, 2, 0, 1000), (1000, 10, 1000, 1000),
    (1000, 10, 1000, 1), (3, 2, 1, 50), (5, 1, 7, 40), (7, 3, 0, 100), (10, 1, 0, 4), (4, 1, 0, 10),
    (2, 10, 5, 999), (1, 1, 1000, 1000), (999, 1, 1, 1000), (1, 10, 0, 1000), (6, 2, 3, 6),
]
SMALL = list(itertools.product((1, 2, 5), (1, 2, 3), (0, 1, 4), (1, 3, 9)))


def gaps_one_by_one(gaps, many):
    first, times, more, most = gaps
    row = []
    gap = first if first < most else most
    for _ in range(many):
        row.append(gap)
        gap = times * gap + more
        if gap > most:
            gap = most
    return row


class GapsGood(unittest.TestCase):
    def test_bounds_of_each_number(self):
        good = (5, 5, 5, 5)
        for at, (least, most) in enumerate(BOUNDS):
            for number, wanted in ((least, True), (most, True), (least - 1, False), (most + 1, False)):
                thing = good[:at] + (number,) + good[at + 1:]
                self.assertIs(gaps_good(thing), wanted, thing)

    def test_first_may_be_more_than_most(self):
        self.assertIs(gaps_good((1000, 1, 0, 1)), True)

    def test_whatever(self):
        for thing in whatever():
            self.assertIs(asked_fairly(self, gaps_good, thing), False, thing)

    def test_spoiled(self):
        for thing in spoiled((1, 1, 1, 1)):
            self.assertIs(asked_fairly(self, gaps_good, thing), False, thing)

    def test_too_short_and_too_long(self):
        for thing in ((), (1,), (1, 1, 1), (1, 1, 1, 1, 1), ((1, 1, 1, 1),)):
            self.assertIs(gaps_good(thing), False, thing)


class GapsOneByOne(unittest.TestCase):
    def test_named_ones(self):
        self.assertEqual([gap_at((3, 2, 1, 50), k) for k in range(1, 8)], [3, 7, 15, 31, 50, 50, 50])
        self.assertEqual([sum_of((3, 2, 1, 50), k) for k in range(7)], [0, 3, 10, 25, 56, 106, 156])
        self.assertEqual([knocks_within((3, 2, 1, 50), n) for n in (0, 2, 3, 9, 10, 106, 155)], [0, 0, 1, 1, 2, 5, 5])

    def test_first_gap_is_no_more_than_most(self):
        self.assertEqual(gap_at((10, 1, 0, 4), 1), 4)

    def test_gap_at_and_sum_of(self):
        for gaps in SAMPLE + SMALL:
            row = gaps_one_by_one(gaps, 40)
            self.assertEqual([gap_at(gaps, k) for k in range(1, 41)], row)
            self.assertEqual([sum_of(gaps, k) for k in range(41)], [sum(row[:k]) for k in range(41)])

    def test_long_rows(self):
        for gaps in SAMPLE:
            row = gaps_one_by_one(gaps, 1100)
            for k in (998, 999, 1000, 1001, 1100):
                self.assertEqual(gap_at(gaps, k), row[k - 1])
                self.assertEqual(sum_of(gaps, k), sum(row[:k]))

    def test_knocks_within(self):
        for gaps in SMALL:
            row = gaps_one_by_one(gaps, 80)
            for n in range(60):
                wanted = max(k for k in range(80) if sum(row[:k]) <= n)
                self.assertEqual(knocks_within(gaps, n), wanted)

    def test_however_great(self):
        for gaps in SAMPLE:
            row = gaps_one_by_one(gaps, 1100)
            for k in (10 ** 6, 10 ** 20 + 7, 10 ** 29, GREAT):
                self.assertEqual(gap_at(gaps, k), row[-1])
                self.assertEqual(sum_of(gaps, k), sum(row) + (k - 1100) * row[-1])
            for n in (10 ** 7, 10 ** 20 + 7, 10 ** 29, GREAT):
                self.assertEqual(knocks_within(gaps, n), 1100 + (n - sum(row)) // row[-1])

    def test_knocks_within_and_sum_of_lead_back(self):
        for gaps in SAMPLE + SMALL:
            for k in (0, 1, 2, 3, 10, 999, 1000, 1001, 10 ** 28):
                self.assertEqual(knocks_within(gaps, sum_of(gaps, k)), k)
                self.assertEqual(knocks_within(gaps, sum_of(gaps, k + 1) - 1), k)

    def test_no_gap_is_less_than_the_one_ahead(self):
        for gaps in SAMPLE + SMALL:
            row = [gap_at(gaps, k) for k in range(1, 60)]
            self.assertEqual(row, sorted(row))


class Beats(unittest.TestCase):
    def test_beats_of(self):
        self.assertEqual(beats_of((3, 2, 1, 50), 0), [])
        self.assertEqual(beats_of((3, 2, 1, 50), 1), [0])
        self.assertEqual(beats_of((3, 2, 1, 50), 7), [0, 3, 10, 25, 56, 106, 156])
        for gaps in SAMPLE:
            for many in (0, 1, 2, 59, 60, 61):
                self.assertEqual(beats_of(gaps, many), [sum_of(gaps, k) for k in range(many)])

    def test_beats_are_a_list_of_the_asker_s_own(self):
        beats = beats_of((1, 1, 0, 1), 3)
        self.assertIs(type(beats), list)
        beats.append(None)
        self.assertEqual(beats_of((1, 1, 0, 1), 3), [0, 1, 2])
        self.assertIsNot(beats_of((1, 1, 0, 1), 0), beats_of((1, 1, 0, 1), 0))

    def test_settled_at(self):
        for gaps, wanted in (
            ((1, 1, 0, 1000), 1), ((1, 1, 1, 1000), 1000), ((1, 1, 1, 999), 999), ((10, 5, 5, 4), 1),
            ((4, 5, 5, 4), 1), ((3, 2, 1, 50), 5), ((999, 1, 1, 1000), 2), ((1, 2, 0, 1000), 11), ((1, 1, 0, 1), 1),
        ):
            self.assertEqual(settled_at(gaps), wanted, gaps)

    def test_settled_at_one_by_one(self):
        for gaps in SAMPLE + SMALL:
            row = gaps_one_by_one(gaps, 1100)
            self.assertEqual(settled_at(gaps), min(k for k in range(1, 1101) if len(set(row[k - 1:])) == 1))

    def test_first_less(self):
        self.assertIsNone(first_less((1, 1, 1, 1000), (1, 1, 1, 1000)))
        self.assertEqual(first_less((1, 1, 1, 999), (1, 1, 1, 1000)), 1000)
        self.assertIsNone(first_less((1, 1, 1, 1000), (1, 1, 1, 999)))
        self.assertEqual(first_less((1, 1, 0, 9), (2, 1, 0, 9)), 1)
        self.assertEqual(first_less((5, 1, 0, 9), (2, 2, 0, 9)), 3)

    def test_first_less_one_by_one(self):
        for one, other in itertools.product(SAMPLE + SMALL[::7], repeat=2):
            rows = zip(gaps_one_by_one(one, 1100), gaps_one_by_one(other, 1100))
            wanted = next((k for k, (gap, against) in enumerate(rows, 1) if gap < against), None)
            self.assertEqual(first_less(one, other), wanted, (one, other))


def shaken_one_by_one(gaps, shakes):
    beats = [0]
    for gap, shake in zip(gaps_one_by_one(gaps, len(shakes)), shakes):
        beats.append(beats[-1] + gap - int(gap * shake / 200))
    return beats


class Shakes(unittest.TestCase):
    def test_named_ones(self):
        self.assertEqual(shaken((3, 2, 1, 50), ()), [0])
        self.assertEqual(shaken((3, 2, 1, 50), (0, 0, 0)), [0, 3, 10, 25])
        self.assertEqual(shaken((3, 2, 1, 50), (100, 100, 50)), [0, 2, 6, 18])
        self.assertEqual(shaken((1, 1, 0, 1), (100,) * 59), list(range(60)))

    def test_each_gap_and_shake(self):
        for gap, shake in itertools.product((1, 2, 3, 7, 199, 200, 201, 333, 1000), range(101)):
            beats = shaken((gap, 1, 0, 1000), (shake,))
            self.assertEqual(beats, shaken_one_by_one((gap, 1, 0, 1000), (shake,)))
            self.assertTrue(gap <= 2 * beats[1] and beats[1] <= gap)

    def test_sums_of_shaken_gaps(self):
        rows = [(0,) * 59, (100,) * 59, tuple(at * 37 % 101 for at in range(59)), (1, 99, 50), (33,)]
        for gaps, shakes in itertools.product(SAMPLE, rows):
            beats = shaken(gaps, shakes)
            self.assertEqual(beats, shaken_one_by_one(gaps, shakes))
            for k, beat in enumerate(beats):
                self.assertTrue(beat <= sum_of(gaps, k) <= 2 * beat)

    def test_shaken_is_a_list_of_the_asker_s_own(self):
        beats = shaken((1, 1, 0, 1), (0,))
        self.assertIs(type(beats), list)
        beats.clear()
        self.assertEqual(shaken((1, 1, 0, 1), (0,)), [0, 1])

    def check_found(self, gaps, beats):
        shakes = asked_fairly(self, shakes_for, gaps, beats)
        self.assertIs(type(shakes), tuple)
        self.assertEqual(len(shakes), len(beats) - 1)
        self.assertTrue(all(type(shake) is int and 0 <= shake <= 100 for shake in shakes))
        self.assertEqual(shaken(gaps, shakes), beats)

    def test_shakes_for_what_was_shaken(self):
        rows = [(), (0,), (100,), (0,) * 59, (100,) * 59, tuple(at * 37 % 101 for at in range(59))]
        for gaps, shakes in itertools.product(SAMPLE, rows):
            self.check_found(gaps, shaken(gaps, shakes))
        for gaps in SAMPLE:
            self.check_found(gaps, beats_of(gaps, 60))

    def test_shakes_for_each_second_beat(self):
        for gap in (1, 2, 5, 150, 200, 201, 400, 999, 1000):
            can = {gap - gap * shake // 200 for shake in range(101)}
            for beat in range(1, gap + 2):
                if beat in can:
                    self.check_found((gap, 1, 0, 1000), [0, beat])
                else:
                    self.assertIsNone(shakes_for((gap, 1, 0, 1000), [0, beat]))

    def test_none_where_there_are_none(self):
        for beats in ([0, 4], [0, 1], [0, 3, 11], [0, 3, 6], [0, HUGE], [0, 3, GREAT], [0, 3, 10, 11]):
            self.assertIsNone(shakes_for((3, 2, 1, 50), beats), beats)

    def test_lengths(self):
        self.assertEqual(shakes_for((1, 1, 0, 1), [0]), ())
        self.check_found((1, 1, 0, 1), list(range(60)))
        refusal(self, NoNumber, shakes_for, (1, 1, 0, 1), list(range(61)))
        refusal(self, NoNumber, shakes_for, (1, 1, 0, 1), [])

    def test_refused_lists(self):
        for beats in ([1], [1, 2], [-1, 0], [0, 0], [0, 1, 1], [0, 2, 1], [0, -1], (0, 1), (0,), {0: 1}, "01"):
            self.assertEqual(refusal(self, NoNumber, shakes_for, (1, 1, 0, 1), beats), {})

    def test_refused_whatever(self):
        for thing in whatever():
            if thing != [0] or type(thing[0]) is not int:
                refusal(self, NoNumber, shakes_for, (1, 1, 0, 1), thing)

    def test_refused_for_a_thing_in_the_list(self):
        for wrong in wrong_parts():
            if type(wrong) is not int:
                refusal(self, NoNumber, shakes_for, (1, 1, 0, 1), [0, wrong])
                refusal(self, NoNumber, shakes_for, (1, 1, 0, 1), [wrong, 1])
                refusal(self, NoNumber, shakes_for, (1, 1, 0, 1), [0, 9, wrong, 10])

    def test_refused_even_where_no_shakes_fit_ahead(self):
        refusal(self, NoNumber, shakes_for, (1, 1, 0, 1), [0, 500, None])
        refusal(self, NoNumber, shakes_for, (1, 1, 0, 1), [0, 500, 499])


if __name__ == "__main__":
    unittest.main()
