"""Points 6.1 to 6.6."""

import itertools
import random
import unittest

from knockpurse.errors import NoStep, TooGreat
from knockpurse.handed import (
    best_order, blind_of, done_blindly, done_by_time, least_time, least_vain, most_served, ordered, road_good, schedule_for,
    schedule_good, times_of, turned_at, vain_askings, vain_of,
)
from tests.things import GREAT, HUGE, asked_fairly, refusal, spoiled, whatever

LAST = 1000000
LONGEST = 10 ** 6
ROAD = ((3, 2), (4, 0), (1, 5))
LEAST = ((1, 0),)
GREATEST = ((1000, 1000),) * 8
NO_ORDERS = [
    (0, 1), (0, 1, 2, 3), (0, 1, 1), (1, 2, 3), (0, 1, -1), (0, 1, 3), (0, 1, True), (False, 1, 2), (False, True, 2), (),
    [0, 1, 2], "012", {0: 1}, None, 0, (0, 1, "2"), (0, 1, (2,)), (0, 1, [2]), ((0, 1, 2),), (0, 1, None), (0, 1, HUGE), (0, 0, 0),
]


def random_road(mixer, most_houses, most=9):
    return tuple(
        (mixer.randrange(1, most + 1), mixer.randrange(most + 1)) for _ in range(mixer.randrange(1, most_houses + 1))
    )


def random_askings(mixer, most_askings, span):
    beats = sorted(mixer.randrange(span) for _ in range(mixer.randrange(most_askings + 1)))
    return tuple((beat, mixer.randrange(2 * span)) for beat in beats)


def house_by_house(road, time):
    """(what is left at each house, who turns away, the beats worked there), one beat of work at a time."""
    times, worked, left = [], 0, time
    for number, (need, keep) in enumerate(road):
        times.append(left)
        if left < need:
            return times, number, worked
        for _ in range(need):
            left -= 1
            worked += 1
        for _ in range(keep):
            left = left - 1 if left > 0 else 0
    return times, None, worked


def house_beat_by_beat(need, askings, blindly):
    """When each asking is done, the house gone through beat by beat."""
    done, free, beat, ahead = {}, 0, 0, list(enumerate(askings))
    while ahead:
        number, (comes, time) = ahead[0]
        if comes <= beat and free <= beat:
            if blindly or beat + need <= comes + time:
                free = done[number] = beat + need
            else:
                done[number] = None
            ahead.pop(0)
        else:
            beat += 1
    return [done[number] for number in range(len(askings))]


def served_by_orders(need, askings):
    """The most askings that a schedule has, by all orders of all choices of them."""
    for many in range(len(askings), 0, -1):
        for chosen in itertools.permutations(askings, many):
            free = 0
            for beat, time in chosen:
                free = max(free, beat) + need
                if free > beat + time:
                    break
            else:
                return many
    return 0


def is_schedule(need, askings, schedule):
    """Whether tuples of numbers are a schedule, each pair of them asked for what point 6.5 says."""
    for number, begin in schedule:
        if not 0 <= number < len(askings):
            return False
        beat, time = askings[number]
        if begin < beat or begin + need > beat + time:
            return False
    for (number, begin), (other, later) in itertools.combinations(schedule, 2):
        if number == other or later < begin + need:
            return False
    return True


class Roads(unittest.TestCase):
    def test_edges(self):
        for road, wanted in (
            (LEAST, True), (GREATEST, True), ((), False), (GREATEST + LEAST, False), (((0, 0),), False), (((1001, 0),), False),
            (((1, -1),), False), (((1, 1001),), False), (((1000, 1000),), True), (((1, 0), (0, 0)), False), (LEAST * 8, True),
            (LEAST * 9, False), (((1,),), False), (((1, 0, 0),), False), ((1, 0), False), ([(1, 0)], False), (([1, 0],), False),
            (((True, 0),), False), (((1, False),), False), (((1, "0"),), False), (((HUGE, 0),), False),
        ):
            self.assertIs(asked_fairly(self, road_good, road), wanted, road)

    def test_whatever(self):
        for thing in whatever():
            self.assertIs(asked_fairly(self, road_good, thing), isinstance(thing, tuple) and thing == ((1, 0),), thing)

    def test_spoiled(self):
        for thing in spoiled(((1, 1), (2, 2))):
            self.assertIs(asked_fairly(self, road_good, thing), False, thing)

    def test_times_of(self):
        for time, times, turned, vain in (
            (0, [0], 0, 0), (2, [2], 0, 0), (3, [3, 0], 1, 3), (5, [5, 0], 1, 3), (6, [6, 1], 1, 3), (8, [8, 3], 1, 3),
            (9, [9, 4, 0], 2, 7), (10, [10, 5, 1], None, 0), (LONGEST, [LONGEST, LONGEST - 5, LONGEST - 9], None, 0),
        ):
            self.assertEqual(times_of(ROAD, time), times)
            self.assertEqual(turned_at(ROAD, time), turned)
            self.assertEqual(vain_of(ROAD, time), vain)

    def test_house_by_house(self):
        mixer = random.Random(61)
        for _ in range(800):
            road = random_road(mixer, 8, mixer.choice((1, 4, 9)))
            for time in (0, 1, mixer.randrange(30), mixer.randrange(150), least_time(road), least_time(road) - 1):
                times, turned, worked = house_by_house(road, time)
                self.assertEqual(asked_fairly(self, times_of, road, time), times)
                self.assertEqual(turned_at(road, time), turned)
                self.assertEqual(vain_of(road, time), 0 if turned is None else worked)

    def test_least_time(self):
        for road, wanted in ((ROAD, 10), (LEAST, 1), (((5, 1000),), 5), (GREATEST, 15000), (((1, 0),) * 8, 8)):
            self.assertEqual(least_time(road), wanted, road)

    def test_least_time_is_least(self):
        mixer = random.Random(611)
        for _ in range(200):
            road = random_road(mixer, 8, 5)
            self.assertEqual(least_time(road), min(time for time in range(100) if house_by_house(road, time)[1] is None))

    def test_greatest_road(self):
        self.assertEqual(times_of(GREATEST, 15000), [15000 - 2000 * at for at in range(8)])
        self.assertIsNone(turned_at(GREATEST, 15000))
        self.assertEqual(turned_at(GREATEST, 14999), 7)
        self.assertEqual(vain_of(GREATEST, 14999), 7000)

    def test_blind_of(self):
        for road, time, wanted in (
            (ROAD, 8, 0), (ROAD, 7, 8), (ROAD, 0, 8), (ROAD, LONGEST, 0), (LEAST, 0, 1), (LEAST, 1, 0), (GREATEST, 8000, 0),
            (GREATEST, 7999, 8000),
        ):
            self.assertEqual(blind_of(road, time), wanted, (road, time))

    def test_the_list_is_the_asker_s_own(self):
        times = times_of(ROAD, 10)
        times.clear()
        self.assertEqual(times_of(ROAD, 10), [10, 5, 1])


class Orders(unittest.TestCase):
    def test_ordered(self):
        self.assertEqual(ordered(ROAD, (0, 1, 2)), ROAD)
        self.assertEqual(ordered(ROAD, (2, 0, 1)), ((1, 5), (3, 2), (4, 0)))
        self.assertEqual(ordered(LEAST, (0,)), LEAST)
        self.assertEqual(ordered(tuple((at + 1, at) for at in range(8)), (7, 6, 5, 4, 3, 2, 1, 0)),
                         tuple((at + 1, at) for at in range(7, -1, -1)))

    def test_no_order_is_refused(self):
        for thing in NO_ORDERS:
            self.assertEqual(refusal(self, NoStep, ordered, ROAD, thing), {})
        self.assertEqual(refusal(self, NoStep, ordered, LEAST, (False,)), {})
        self.assertEqual(refusal(self, NoStep, ordered, LEAST, (1,)), {})
        self.assertEqual(refusal(self, NoStep, ordered, LEAST * 2, (False, True)), {})

    def test_whatever(self):
        for thing in whatever():
            if isinstance(thing, tuple) and thing == (0, 1, 2):
                self.assertEqual(ordered(ROAD, thing), ROAD)
            else:
                refusal(self, NoStep, ordered, ROAD, thing)

    def test_spoiled(self):
        for thing in spoiled((2, 0, 1)):
            refusal(self, NoStep, ordered, ROAD, thing)

    def test_best_order(self):
        for road, wanted in (
            (ROAD, (0, 1, 2)), (LEAST, (0,)), (((1, 9), (2, 3), (3, 9), (4, 0)), (0, 1, 3, 2)), (((5, 9), (1, 3)), (1, 0)),
            (GREATEST, (0, 1, 2, 3, 4, 5, 6, 7)), (((1, 1),) + ((1, 0),) * 7, (1, 2, 3, 4, 5, 6, 7, 0)),
        ):
            self.assertEqual(best_order(road), wanted, road)

    def test_best_order_of_all(self):
        mixer = random.Random(63)
        for _ in range(60):
            road = random_road(mixer, 6, mixer.choice((1, 2, 6)))
            orders = list(itertools.permutations(range(len(road))))
            wanted = min(orders, key=lambda order: (least_time(tuple(road[number] for number in order)), order))
            self.assertEqual(asked_fairly(self, best_order, road), wanted, road)
            self.assertLessEqual(least_time(ordered(road, best_order(road))), least_time(road))

    def test_best_order_of_seven_and_eight_houses(self):
        mixer = random.Random(631)
        for many in (7, 8):
            road = tuple((mixer.randrange(1, 5), mixer.randrange(3)) for _ in range(many))
            orders = itertools.permutations(range(many))
            wanted = min(orders, key=lambda order: (sum(keep for need, keep in road) - road[order[-1]][1], order))
            self.assertEqual(best_order(road), wanted)

    def test_least_vain(self):
        for road, time, wanted in (
            (ROAD, 10, 0), (ROAD, 9, 1), (ROAD, 3, 0), (ROAD, 0, 0), (ROAD, LONGEST, 0), (LEAST, 0, 0), (((2, 0),) * 6, 11, 10),
            (((2, 0),) * 6, 12, 0), (((9, 0), (1, 0)), 9, 1), (((9, 0), (1, 0)), 8, 0),
        ):
            self.assertEqual(least_vain(road, time), wanted, (road, time))

    def test_least_vain_of_all_orders(self):
        mixer = random.Random(632)
        for _ in range(60):
            road = random_road(mixer, 6, mixer.choice((2, 9)))
            for time in (0, mixer.randrange(20), mixer.randrange(80), least_time(road)):
                results = [house_by_house(order, time) for order in itertools.permutations(road)]
                wanted = min(0 if turned is None else worked for _, turned, worked in results)
                self.assertEqual(asked_fairly(self, least_vain, road, time), wanted, (road, time))

    def test_six_and_seven_houses(self):
        self.assertEqual(least_vain(GREATEST[:6], 11000), 0)
        self.assertEqual(least_vain(GREATEST[:6], 10999), 5000)
        self.assertEqual(refusal(self, TooGreat, least_vain, GREATEST[:7], 5), {"many": 7, "most": 6})
        self.assertEqual(refusal(self, TooGreat, least_vain, GREATEST, LONGEST), {"many": 8, "most": 6})


class OneHouse(unittest.TestCase):
    def test_named_ones(self):
        for need, askings, by_time, blindly, vain in (
            (5, (), [], [], 0), (5, ((0, 5),), [5], [5], 0), (5, ((0, 4),), [None], [5], 1),
            (5, ((0, 5), (0, 9), (0, 10)), [5, None, 10], [5, 10, 15], 2), (5, ((0, 5), (2, 8), (20, 5)), [5, 10, 25], [5, 10, 25], 0),
            (5, ((0, 0), (0, 5)), [None, 5], [5, 10], 2), (5, ((3, 4), (3, 5)), [None, 8], [8, 13], 2),
            (1, ((LAST, LONGEST),) * 8, [LAST + at + 1 for at in range(8)], [LAST + at + 1 for at in range(8)], 0),
            (1000, ((LAST, 1000), (LAST, LONGEST)), [LAST + 1000, LAST + 2000], [LAST + 1000, LAST + 2000], 0),
            (1000, ((0, 999),) * 8, [None] * 8, [1000 * at for at in range(1, 9)], 8),
        ):
            self.assertEqual(asked_fairly(self, done_by_time, need, askings), by_time, askings)
            self.assertEqual(asked_fairly(self, done_blindly, need, askings), blindly, askings)
            self.assertEqual(asked_fairly(self, vain_askings, need, askings), vain, askings)

    def test_beat_by_beat(self):
        mixer = random.Random(64)
        for _ in range(1500):
            need, askings = mixer.randrange(1, 9), random_askings(mixer, 8, mixer.choice((1, 5, 20, 40)))
            self.assertEqual(done_by_time(need, askings), house_beat_by_beat(need, askings, False))
            blindly = house_beat_by_beat(need, askings, True)
            self.assertEqual(done_blindly(need, askings), blindly)
            late = [end for end, (beat, time) in zip(blindly, askings) if end > beat + time]
            self.assertEqual(vain_askings(need, askings), len(late))

    def test_the_lists_are_the_asker_s_own(self):
        for function in (done_by_time, done_blindly):
            function(5, ((0, 5),)).clear()
            self.assertEqual(function(5, ((0, 5),)), [5])


class Schedules(unittest.TestCase):
    ASKINGS = ((0, 9), (2, 8), (2, 30))

    def test_named_ones(self):
        for thing, wanted in (
            ((), True), (((0, 0),), True), (((0, 4),), True), (((0, 5),), False), (((0, 0), (1, 5)), True),
            (((0, 0), (1, 4)), False), (((1, 2), (2, 7)), True), (((1, 1),), False), (((1, 5),), True), (((1, 6),), False),
            (((0, 0), (1, 5), (2, 10)), True), (((0, 0), (1, 5), (2, 27)), True), (((0, 0), (1, 5), (2, 28)), False),
            (((2, 10), (1, 5)), False), (((2, 10), (2, 15)), False), (((2, 10), (0, 10)), False), (((3, 10),), False),
            (((-1, 10),), False), (((0, -1),), False), ([(0, 0)], False), (([0, 0],), False), ((0, 0), False), (((0,),), False),
            (((0, 0, 0),), False), (((False, 0),), False), (((0, False),), False), (((True, 5),), False), (((0, True),), False),
            (((0, "0"),), False), (((0, None),), False), (((HUGE, 0),), False), (((0, HUGE),), False), ("", False), ([], False),
            ({}, False), (None, False), (((1, 5), (0, 0)), False), ((((0, 0),),), False), (((0, 0), ()), False),
        ):
            self.assertIs(asked_fairly(self, schedule_good, 5, self.ASKINGS, thing), wanted, thing)

    def test_no_askings(self):
        self.assertIs(schedule_good(5, (), ()), True)
        self.assertIs(schedule_good(5, (), ((0, 0),)), False)
        self.assertIs(schedule_good(5, (), ((-1, 0),)), False)
        self.assertEqual(schedule_for(5, ()), ())
        self.assertEqual(most_served(5, ()), 0)

    def test_against_pairs(self):
        askings = ((0, 4), (1, 3), (1, 6))
        entries = list(itertools.product(range(-1, 4), range(-1, 7)))
        for need, many in itertools.product((1, 2, 3), (0, 1, 2)):
            for thing in itertools.product(entries, repeat=many):
                self.assertIs(schedule_good(need, askings, thing), is_schedule(need, askings, thing), (need, thing))
        for thing in itertools.product(entries[::2], repeat=3):
            self.assertIs(schedule_good(2, askings, thing), is_schedule(2, askings, thing), thing)

    def test_whatever(self):
        for askings, schedules in ((self.ASKINGS, ((), ((0, 1),))), ((), ((),))):
            for thing in whatever():
                self.assertIs(asked_fairly(self, schedule_good, 5, askings, thing), thing in schedules, thing)

    def test_spoiled(self):
        for thing in spoiled(((1, 2), (2, 7))):
            self.assertIs(asked_fairly(self, schedule_good, 5, self.ASKINGS, thing), False, thing)

    def test_most_served_named(self):
        for need, askings, wanted in (
            (5, ((0, 5),), 1), (5, ((0, 4),), 0), (5, self.ASKINGS, 3), (5, ((0, 100), (0, 5)), 2), (5, ((0, 9), (1, 5)), 1),
            (1000, ((LAST, 1000),) * 8, 1), (1000, ((LAST, 8000),) * 8, 8), (1000, ((LAST, 7999),) * 8, 7),
            (1, tuple((0, 8 - at) for at in range(8)), 8), (3, ((0, 30), (1, 3), (2, 30)), 3),
        ):
            self.assertEqual(most_served(need, askings), wanted, (need, askings))
            self.found(need, askings)

    def found(self, need, askings):
        schedule = asked_fairly(self, schedule_for, need, askings)
        self.assertIs(schedule_good(need, askings, schedule), True, (need, askings, schedule))
        self.assertTrue(is_schedule(need, askings, schedule))
        self.assertEqual(len(schedule), most_served(need, askings))
        return schedule

    def test_most_served_by_all_orders(self):
        mixer = random.Random(65)
        for _ in range(250):
            need, askings = mixer.randrange(1, 9), random_askings(mixer, 5, mixer.choice((1, 5, 12, 30)))
            self.assertEqual(most_served(need, askings), served_by_orders(need, askings), (need, askings))
            self.found(need, askings)

    def test_most_served_of_eight(self):
        mixer = random.Random(651)
        for _ in range(4):
            beats = sorted(mixer.randrange(25) for _ in range(8))
            askings = tuple((beat, 4 + mixer.randrange(20)) for beat in beats)
            self.assertEqual(most_served(4, askings), served_by_orders(4, askings))
            self.found(4, askings)

    def test_beats_beyond_those_that_are_handed_in(self):
        askings = ((LAST, LONGEST), (LAST, LONGEST))
        self.assertIs(schedule_good(1000, askings, ((0, LAST), (1, LAST + 1000))), True)
        self.assertIs(schedule_good(1000, askings, ((1, LAST), (0, LAST + LONGEST - 1000))), True)
        self.assertIs(schedule_good(1000, askings, ((1, LAST), (0, LAST + LONGEST - 999))), False)
        self.assertEqual(len(self.found(1000, askings)), 2)


class Together(unittest.TestCase):
    def test_more_time_goes_no_less_far(self):
        mixer = random.Random(66)
        for _ in range(60):
            road = random_road(mixer, 8, 4)
            ahead = 0
            for time in range(70):
                turned = turned_at(road, time)
                far = len(road) if turned is None else turned
                self.assertGreaterEqual(far, ahead)
                ahead = far
                if turned is None:
                    self.assertEqual(vain_of(road, time), 0)

    def test_least_time_goes_through_and_one_beat_less_does_not(self):
        mixer = random.Random(661)
        for road in [ROAD, LEAST, GREATEST] + [random_road(mixer, 8, 1000) for _ in range(100)]:
            self.assertIsNone(turned_at(road, least_time(road)))
            self.assertEqual(vain_of(road, least_time(road)), 0)
            self.assertIsNotNone(turned_at(road, least_time(road) - 1))

    def test_what_is_done_by_the_time_left_is_a_schedule(self):
        mixer = random.Random(662)
        for _ in range(300):
            need, askings = mixer.randrange(1, 9), random_askings(mixer, 8, mixer.choice((1, 5, 20, 40)))
            done = done_by_time(need, askings)
            schedule = tuple((number, end - need) for number, end in enumerate(done) if end is not None)
            self.assertIs(schedule_good(need, askings, schedule), True)
            self.assertLessEqual(len(schedule), most_served(need, askings))

    def test_by_the_time_left_nothing_is_in_vain_at_one_house_alone(self):
        for need, keep, time in itertools.product((1, 5, 1000), (0, 7, 1000), (0, 1, 4, 5, 999, 1000, LONGEST)):
            self.assertEqual(vain_of(((need, keep),), time), 0)
        mixer = random.Random(663)
        for _ in range(200):
            need, askings = mixer.randrange(1, 9), random_askings(mixer, 8, 20)
            for end, (beat, time) in zip(done_by_time(need, askings), askings):
                self.assertTrue(end is None or end <= beat + time)

    def test_great_times(self):
        self.assertEqual(times_of(LEAST, GREAT), [GREAT])
        self.assertEqual(blind_of(GREATEST, GREAT), 0)


if __name__ == "__main__":
    unittest.main()
