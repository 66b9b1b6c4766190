"""Points 4.1 to 4.7."""

import itertools
import random
import unittest

from knockpurse.errors import NoNumber, NoStep, TooGreat
from knockpurse.purses import (
    Purse, best_row, coins_behind, far_behind, later, most_between, most_paid, paid_in, parted_by, parts, purse_good,
    unpaid_at,
)
from tests.things import GREAT, HUGE, asked_fairly, refusal, spoiled, whatever

FAR = 10 ** 12
LEAST = (0, 1, 0, 0)
GREATEST = (1000, 1000, 10000, 10000)
SMALL = [
    (part, price, cap, first)
    for part in (0, 1, 2, 3, 5)
    for price in (1, 2, 3, 4)
    for cap in (0, 1, 3, 4, 7)
    for first in range(0, cap + 1, 2)
]
PURSES = SMALL + [
    LEAST, GREATEST, (1000, 1, 10000, 0), (1, 1000, 10000, 9999), (999, 1000, 1000, 1000), (7, 1000, 1003, 1003),
    (333, 1000, 1100, 5), (613, 997, 1200, 0), (1000, 7, 10000, 10000), (1, 1000, 999, 999), (1000, 1000, 0, 0),
]
NO_ROWS = [
    None, True, False, 0, 1, HUGE, -HUGE, [], ["a"], ["a", "k"], ("a", "k"), (), {}, {"a": "k"}, "A", "K", "b", "ab", "a k",
    "ak\n", "\tk", " ", "akx", "a" * 201, "k" * 201, "ak" * 101, "aak?", [[]], (("a", 1),),
]
SHORT_ROWS = ["".join(signs) for length in range(8) for signs in itertools.product("ak", repeat=length)]


def deed_by_deed(purse, row):
    """(coins, how many are paid, the places of those that are not), straight out of point 4.1's words."""
    part, price, cap, coins = purse
    paid, unpaid = 0, []
    for place, sign in enumerate(row):
        if sign == "a":
            for _ in range(part):
                if coins < cap:
                    coins += 1
        elif coins >= price:
            coins -= price
            paid += 1
        else:
            unpaid.append(place)
    return coins, paid, unpaid


def reachable(purse):
    """All numbers of coins that some row leads to."""
    part, price, cap, first = purse
    seen, ahead = {first}, [first]
    while ahead:
        coins = ahead.pop()
        for then in (min(cap, coins + part), coins - price if coins >= price else coins):
            if then not in seen:
                seen.add(then)
                ahead.append(then)
    return seen


def most_of_all_rows(purse, begins, n):
    """The most knocks that are paid with n askings, over all rows at once, from any of these numbers of coins on."""
    part, price, cap, _ = purse
    best = dict.fromkeys(begins, 0)
    for asking in range(n + 1):
        for coins in range(cap, price - 1, -1):
            if coins in best:
                best[coins - price] = max(best.get(coins - price, 0), best[coins] + 1)
        if asking < n:
            further = {}
            for coins, paid in best.items():
                then = min(cap, coins + part)
                further[then] = max(further.get(then, 0), paid)
            best = further
    return max(best.values())


def most_by_doubling(purse, n):
    """The most knocks that are paid with n askings, where each is wanted at once, by tables of 1, 2, 4 .. askings."""
    part, price, cap, first = purse
    table = [divmod(min(cap, left + part), price) for left in range(price)]
    total, left = divmod(first, price)
    while n:
        if n % 2:
            paid, left = table[left]
            total += paid
        table = [(paid + table[then][0], table[then][1]) for paid, then in table]
        n //= 2
    return total


def shortest_by_distance(one, other):
    """The shortest row that parts two purses, the first as texts compare, by how far each pair of coins is from it."""
    def behind(purse, coins, sign):
        if sign == "a":
            return min(purse[2], coins + purse[0])
        return coins - purse[1] if coins >= purse[1] else coins

    def behind_both(pair, sign):
        return behind(one, pair[0], sign), behind(other, pair[1], sign)

    pairs = list(itertools.product(range(one[2] + 1), range(other[2] + 1)))
    into = {}
    for pair, sign in itertools.product(pairs, "ak"):
        into.setdefault(behind_both(pair, sign), []).append(pair)
    distance = {pair: 0 for pair in pairs if (pair[0] >= one[1]) != (pair[1] >= other[1])}
    level = list(distance)
    while level:
        further = []
        for pair in level:
            for ahead in into.get(pair, []):
                if ahead not in distance:
                    distance[ahead] = distance[pair] + 1
                    further.append(ahead)
        level = further
    pair, row = (one[3], other[3]), ""
    if pair not in distance:
        return None
    while distance[pair]:
        nearer = [sign for sign in "ak" if distance.get(behind_both(pair, sign), GREAT) < distance[pair]]
        row += nearer[0]
        pair = behind_both(pair, nearer[0])
    return row + "k"


def random_purse(mixer, cap=10000):
    cap = mixer.randrange(cap + 1)
    return mixer.randrange(min(cap, 1000) + 2), mixer.randrange(1, min(cap, 999) + 2), cap, mixer.randrange(cap + 1)


class PurseGood(unittest.TestCase):
    def test_edges(self):
        for purse, wanted in (
            (LEAST, True), (GREATEST, True), ((1000, 1, 0, 0), True), ((0, 1000, 10000, 0), True),
            ((-1, 1, 5, 5), False), ((1001, 1, 5, 5), False), ((0, 0, 5, 5), False), ((0, 1001, 5, 5), False),
            ((0, 1, -1, 0), False), ((0, 1, -1, -1), False), ((0, 1, 10001, 0), False), ((0, 1, 10001, 10001), False),
            ((0, 1, 5, -1), False), ((0, 1, 5, 5), True), ((0, 1, 5, 6), False), ((0, 1, 10000, 10001), False),
        ):
            self.assertIs(purse_good(purse), wanted, purse)

    def test_whatever(self):
        for thing in whatever():
            self.assertIs(asked_fairly(self, purse_good, thing), False, thing)

    def test_spoiled(self):
        for thing in spoiled((1, 1, 1, 1)):
            self.assertIs(asked_fairly(self, purse_good, thing), False, thing)
        for thing in ((1, 1, 1), (), [1, 1, 1, 1], (1, True, 1, 1), (True, 1, 1, 1), (1, 1, 1, False), (1, 1, True, 0)):
            self.assertIs(purse_good(thing), False, thing)


class Rows(unittest.TestCase):
    def test_named_ones(self):
        purse = (2, 3, 7, 4)
        for row, coins, paid, unpaid in (
            ("", 4, 0, []), ("k", 1, 1, []), ("kk", 1, 1, [1]), ("ak", 3, 1, []), ("aak", 4, 1, []), ("aaak", 4, 1, []),
            ("kakk", 0, 2, [3]), ("kkkaakkk", 2, 2, [1, 2, 6, 7]), ("aakkk", 1, 2, [4]),
        ):
            self.assertEqual(coins_behind(purse, row), coins, row)
            self.assertEqual(paid_in(purse, row), paid, row)
            self.assertEqual(unpaid_at(purse, row), unpaid, row)

    def test_a_price_that_is_just_there(self):
        self.assertEqual(paid_in((0, 5, 9, 5), "k"), 1)
        self.assertEqual(paid_in((0, 5, 9, 4), "k"), 0)
        self.assertEqual(coins_behind((0, 5, 9, 4), "k"), 4)

    def test_never_more_than_cap(self):
        self.assertEqual(coins_behind((1000, 1, 10000, 9001), "a"), 10000)
        self.assertEqual(coins_behind((1000, 1, 10000, 9000), "a"), 10000)
        self.assertEqual(coins_behind((1000, 1, 10000, 8999), "a"), 9999)
        self.assertEqual(coins_behind((1000, 1, 0, 0), "aaa"), 0)

    def test_deed_by_deed(self):
        for purse, row in itertools.product(SMALL[::3], SHORT_ROWS):
            wanted = deed_by_deed(purse, row)
            self.assertEqual((coins_behind(purse, row), paid_in(purse, row), unpaid_at(purse, row)), wanted)

    def test_two_hundred_deeds(self):
        mixer = random.Random(4)
        for purse in PURSES[::7] + PURSES[-11:]:
            for row in ("a" * 200, "k" * 200, "".join(mixer.choice("ak") for _ in range(200))):
                wanted = deed_by_deed(purse, row)
                self.assertEqual((coins_behind(purse, row), paid_in(purse, row), unpaid_at(purse, row)), wanted)

    def test_what_is_no_row_is_refused(self):
        for function, thing in itertools.product((coins_behind, paid_in, unpaid_at), NO_ROWS):
            self.assertEqual(refusal(self, NoStep, function, (1, 1, 5, 5), thing), {})

    def test_whatever(self):
        for function, thing in itertools.product((coins_behind, paid_in, unpaid_at), whatever()):
            if thing == "":
                self.assertIn(function((1, 1, 5, 5), thing), (5, 0, []))
            else:
                refusal(self, NoStep, function, (1, 1, 5, 5), thing)

    def test_the_list_is_the_asker_s_own(self):
        places = unpaid_at(LEAST, "kk")
        places.append(9)
        self.assertEqual(unpaid_at(LEAST, "kk"), [0, 1])


class LongRows(unittest.TestCase):
    def test_named_ones(self):
        purse = (2, 3, 7, 4)
        for row, wanted in (
            ((), (4, 0)), ((("a", 0),), (4, 0)), ((("k", 0),), (4, 0)), ((("a", 1),), (6, 0)), ((("a", FAR),), (7, 0)),
            ((("k", FAR),), (1, 1)), ((("a", FAR), ("k", FAR)), (1, 2)), ((("a", 2), ("k", 1), ("a", 1), ("k", 9)), (0, 3)),
            ((("k", 1), ("k", 1), ("a", 1), ("a", 1)), (5, 1)),
        ):
            self.assertEqual(far_behind(purse, row), wanted, row)

    def test_great_ones(self):
        row = (("a", FAR), ("k", FAR)) * 10
        self.assertEqual(far_behind((1000, 1, 10000, 0), row), (0, 100000))
        self.assertEqual(far_behind((0, 1, 10000, 10000), row), (0, 10000))
        self.assertEqual(far_behind((1, 1000, 10000, 9999), row), (0, 100))
        self.assertEqual(far_behind((1, 1000, 999, 0), row), (999, 0))
        self.assertEqual(far_behind((1, 7, 10000, 0), (("a", 9999), ("k", 3))), (9978, 3))

    def test_deed_by_deed(self):
        mixer = random.Random(43)
        for _ in range(3000):
            purse = random_purse(mixer, mixer.choice((9, 60, 10000)))
            row = tuple((mixer.choice("ak"), mixer.choice((0, 1, 2, 3, 30))) for _ in range(mixer.randrange(21)))
            coins, paid, _ = deed_by_deed(purse, "".join(sign * many for sign, many in row))
            self.assertEqual(asked_fairly(self, far_behind, purse, row), (coins, paid))

    def test_twenty_and_twenty_one_tuples(self):
        self.assertEqual(far_behind((1, 2, 50, 0), (("a", 1),) * 20), (20, 0))
        self.assertEqual(refusal(self, NoStep, far_behind, (1, 2, 50, 0), (("a", 1),) * 21), {})
        self.assertEqual(refusal(self, NoStep, far_behind, (1, 2, 50, 0), (("a", 0),) * 21), {})

    def test_edges_of_many(self):
        for many in (-1, FAR + 1, GREAT, HUGE, -HUGE, True, False, None, "1", [1], (1,), ()):
            for sign in "ak":
                self.assertEqual(refusal(self, NoStep, far_behind, (1, 2, 50, 0), ((sign, many),)), {})
                refusal(self, NoStep, far_behind, (1, 2, 50, 0), (("a", 1), (sign, many)))

    def test_whatever(self):
        for thing in whatever():
            if thing == () and isinstance(thing, tuple):
                self.assertEqual(far_behind((1, 2, 50, 3), thing), (3, 0))
            else:
                refusal(self, NoStep, far_behind, (1, 2, 50, 3), thing)

    def test_spoiled(self):
        for thing in spoiled((("a", 1), ("k", 2))):
            refusal(self, NoStep, far_behind, (1, 2, 50, 0), thing)
        for thing in (
            "ak", (("b", 1),), (("ak", 1),), (("", 1),), (("A", 1),), (("a",),), (("a", 1, 1),), ((1, "a"),), [("a", 1)],
            (["a", 1],), ("a", 1), (("a", 1), "k"), ((["a"], 1),), ((("a",), 1),),
        ):
            refusal(self, NoStep, far_behind, (1, 2, 50, 0), thing)


class MostPaid(unittest.TestCase):
    def test_named_ones(self):
        for purse, n, wanted in (
            ((2, 3, 7, 4), 0, 1), ((2, 3, 7, 4), 1, 2), ((2, 3, 7, 4), 2, 2), ((2, 3, 7, 4), 4, 4), (LEAST, 0, 0),
            ((3, 5, 5, 0), 1, 0), ((3, 5, 5, 0), 2, 1), ((3, 5, 5, 0), 4, 2), ((9, 5, 5, 0), 4, 4), ((9, 5, 4, 4), FAR, 0),
            ((1000, 1, 10000, 10000), 0, 10000), ((0, 1, 10000, 10000), FAR, 10000), ((0, 3, 10000, 10000), FAR, 3333),
        ):
            self.assertEqual(most_paid(purse, n), wanted, (purse, n))

    def test_far_ones(self):
        for purse, wanted in (
            ((1, 1, 1, 0), FAR), ((1, 1, 1, 1), FAR + 1), ((3, 5, 5, 0), FAR // 2), ((1000, 1, 10000, 0), 1000 * FAR),
            ((7, 1000, 10000, 9), (7 * FAR + 9) // 1000), ((1000, 1000, 1000, 0), FAR), ((1, 1000, 1000, 0), FAR // 1000),
            (GREATEST, FAR + 10),
        ):
            self.assertEqual(most_paid(purse, FAR), wanted, purse)

    def test_over_all_rows(self):
        for purse, n in itertools.product(SMALL, range(8)):
            self.assertEqual(most_paid(purse, n), most_of_all_rows(purse, [purse[3]], n), (purse, n))

    def test_by_doubling(self):
        mixer = random.Random(44)
        for purse in PURSES + [random_purse(mixer, mixer.choice((60, 1200, 10000))) for _ in range(40)]:
            for n in (0, 1, 2, 40, 997, mixer.randrange(FAR), FAR - 1, FAR):
                self.assertEqual(most_paid(purse, n), most_by_doubling(purse, n), (purse, n))

    def test_asking_by_asking(self):
        for purse in PURSES[-11:]:
            part, price, cap, first = purse
            paid, left = divmod(first, price)
            for n in range(2500):
                if n % 61 == 0:
                    self.assertEqual(most_paid(purse, n), paid, (purse, n))
                more, left = divmod(min(cap, left + part), price)
                paid += more


class BestRow(unittest.TestCase):
    def best(self, purse, n):
        row = best_row(purse, n)
        self.assertIsInstance(row, str)
        self.assertLessEqual(len(row), 200)
        self.assertEqual(row.count("a"), n)
        self.assertEqual(unpaid_at(purse, row), [])
        self.assertEqual(row.count("k"), most_paid(purse, n))
        self.assertEqual(paid_in(purse, row), most_paid(purse, n))
        return row

    def test_named_ones(self):
        self.assertEqual(best_row(LEAST, 0), "")
        self.assertEqual(best_row(LEAST, 40), "a" * 40)
        self.assertEqual(self.best((2, 3, 7, 4), 0), "k")
        self.best((2, 3, 7, 4), 40)

    def test_small_ones(self):
        for purse, n in itertools.product(SMALL, (0, 1, 2, 3, 17, 40)):
            if n + most_paid(purse, n) <= 200:
                self.best(purse, n)

    def test_just_two_hundred_deeds_and_more(self):
        self.assertEqual(len(self.best((4, 1, 10, 0), 40)), 200)
        self.assertEqual(len(self.best((0, 1, 200, 200), 0)), 200)
        self.assertEqual(len(self.best((0, 1, 160, 160), 40)), 200)
        for purse, n, deeds in (
            ((4, 1, 10, 1), 40, 201), ((0, 1, 201, 201), 0, 201), ((0, 1, 200, 200), 1, 201), ((1000, 1, 10000, 0), 1, 1001),
            ((1000, 1, 10000, 10000), 40, 50040), (LEAST, 201, 201), (LEAST, FAR, FAR),
        ):
            self.assertEqual(refusal(self, TooGreat, best_row, purse, n), {"many": deeds, "most": 200})


class MostBetween(unittest.TestCase):
    def test_named_ones(self):
        for purse, n, wanted in (
            ((2, 3, 7, 4), 0, 2), ((2, 3, 7, 4), 1, 3), ((0, 3, 7, 4), 9, 1), ((0, 3, 7, 7), 9, 2), (LEAST, FAR, 0),
            ((1, 1, 10000, 0), 0, 10000), ((1, 1, 10000, 0), FAR, FAR + 10000), ((1000, 1, 10000, 3), FAR, 1000 * FAR + 10000),
        ):
            self.assertEqual(most_between(purse, n), wanted, (purse, n))

    def test_over_all_rows(self):
        for purse, n in itertools.product(SMALL, range(7)):
            self.assertEqual(most_between(purse, n), most_of_all_rows(purse, reachable(purse), n), (purse, n))

    def test_no_more_than_cap_and_parts_have_prices(self):
        mixer = random.Random(444)
        for purse in PURSES + [random_purse(mixer) for _ in range(100)]:
            for n in (0, 1, 5, 40, FAR):
                part, price, cap, first = purse
                self.assertLessEqual(most_between(purse, n), (cap + n * part) // price)
                self.assertGreaterEqual(most_between(purse, n), most_paid(purse, n))

    def test_no_stretch_pays_more(self):
        for purse in SMALL[::5]:
            for row in SHORT_ROWS[-128:]:
                for first, last in itertools.combinations(range(len(row) + 1), 2):
                    paid = paid_in(purse, row[:last]) - paid_in(purse, row[:first])
                    self.assertLessEqual(paid, most_between(purse, row[first:last].count("a")))


class Parting(unittest.TestCase):
    def test_named_ones(self):
        one, other = (1, 2, 5, 0), (1, 2, 5, 1)
        self.assertEqual(parted_by(one, other), "ak")
        self.assertIs(parts(one, other, "ak"), True)
        self.assertIs(parts(other, one, "ak"), True)
        for row in ("", "a", "k", "aa", "aak", "aka", "akk", "kaka"):
            self.assertIs(parts(one, other, row), False, row)
        self.assertEqual(parted_by((0, 1, 1, 1), (0, 1, 0, 0)), "k")
        self.assertIsNone(parted_by((0, 1, 0, 0), (9, 1, 0, 0)))
        self.assertIsNone(parted_by((1, 1, 5, 2), (3, 3, 15, 6)))
        self.assertEqual(parted_by((1, 1, 2, 0), (1, 1, 3, 0)), "aaakkk")

    def test_the_first_of_several(self):
        one, other = (2, 2, 4, 2), (0, 2, 3, 3)
        self.assertEqual([row for row in SHORT_ROWS if len(row) <= 3 and parts(one, other, row)], ["akk", "kak"])
        self.assertEqual(parted_by(one, other), "akk")

    def test_parts_deed_by_deed(self):
        for one, other in itertools.product(SMALL[::17], SMALL[::19]):
            for row in SHORT_ROWS:
                last = len(row) - 1
                unpaid = [last in deed_by_deed(purse, row)[2] for purse in (one, other)]
                self.assertIs(parts(one, other, row), row.endswith("k") and unpaid[0] != unpaid[1])

    def test_parts_of_long_rows_and_great_caps(self):
        one, other = (1, 1, 10000, 0), (1, 1, 9999, 0)
        self.assertIs(parts(one, other, "a" * 10000 + "k" * 10000), True)
        self.assertIs(parts(one, other, "a" * 10000 + "k" * 9999), False)
        self.assertIs(parts(one, other, "a" * 10000 + "k" * 10001), False)
        self.assertIs(parts((0, 1, 200, 200), (0, 1, 201, 201), "k" * 201), True)
        self.assertIs(parts((0, 1, 200, 200), (0, 1, 201, 201), "k" * 202), False)
        self.assertIs(parts((0, 1, 200, 200), (0, 1, 201, 201), "k" * 200), False)

    def test_parts_of_whatever(self):
        one, other = (1, 1, 5, 0), (1, 1, 5, 1)
        for thing in whatever() + NO_ROWS:
            self.assertIs(asked_fairly(self, parts, one, other, thing), False, thing)
        for thing in ("K", "xk", "k\n", " k", "bk", ["k"], ("k",), {"k": "k"}, [["k"]]):
            self.assertIs(parts(one, other, thing), False, thing)
        self.assertIs(parts(one, other, "k"), True)

    def test_against_all_short_rows(self):
        for one, other in itertools.product(SMALL[::11], SMALL[::7]):
            found = next((row for row in SHORT_ROWS if parts(one, other, row)), None)
            told = parted_by(one, other)
            if found is None:
                self.assertTrue(told is None or len(told) > 7)
            else:
                self.assertEqual(told, found)

    def test_by_distance(self):
        mixer = random.Random(45)
        for _ in range(60):
            one, other = random_purse(mixer, 60), random_purse(mixer, 60)
            if mixer.randrange(2):
                other = (one[0], one[1], one[2], mixer.randrange(one[2] + 1))
            row = parted_by(one, other)
            self.assertEqual(row, shortest_by_distance(one, other), (one, other))
            self.assertTrue(row is None or parts(one, other, row))

    def test_caps_of_sixty_and_sixty_one(self):
        self.assertEqual(parted_by((1, 1, 60, 0), (1, 1, 59, 0)), "a" * 60 + "k" * 60)
        self.assertIsNone(parted_by((1, 1, 60, 7), (1, 1, 60, 7)))
        self.assertEqual(parted_by((7, 13, 60, 0), (7, 13, 60, 1)), shortest_by_distance((7, 13, 60, 0), (7, 13, 60, 1)))
        for one, other, cap in (
            ((1, 1, 61, 0), (1, 1, 60, 0), 61), ((1, 1, 60, 0), (1, 1, 61, 0), 61), ((1, 1, 61, 0), (1, 1, 61, 0), 61),
            ((1, 1, 62, 0), (1, 1, 61, 0), 62), (LEAST, GREATEST, 10000), ((0, 1, 61, 1), LEAST, 61),
        ):
            self.assertEqual(refusal(self, TooGreat, parted_by, one, other), {"many": cap, "most": 60})

    def test_what_is_too_great_to_be_parted_may_be_asked_of_parts(self):
        self.assertIs(parts(LEAST, GREATEST, "k"), True)


class KeptPurse(unittest.TestCase):
    def test_deeds(self):
        kept = Purse((2, 3, 7, 4))
        self.assertEqual(kept.held(), 4)
        self.assertIsNone(kept.ask())
        self.assertEqual(kept.held(), 6)
        self.assertIsNone(kept.ask())
        self.assertEqual(kept.held(), 7)
        self.assertIs(kept.knock(), True)
        self.assertIs(kept.knock(), True)
        self.assertEqual(kept.held(), 1)
        self.assertIs(kept.knock(), False)
        self.assertEqual(kept.held(), 1)

    def test_as_rows_tell(self):
        mixer = random.Random(46)
        for purse in PURSES[::9] + PURSES[-11:]:
            kept, row, paid = Purse(purse), "", 0
            for _ in range(150):
                row += mixer.choice("aak")
                if row.endswith("a"):
                    kept.ask()
                else:
                    paid += kept.knock()
                self.assertEqual(kept.held(), coins_behind(purse, row))
            self.assertEqual(paid, paid_in(purse, row))

    def test_each_goes_on_by_itself(self):
        purse = (2, 3, 7, 4)
        one, other, third = Purse(purse), Purse(purse), Purse((1, 1, 1, 0))
        one.ask()
        third.ask()
        self.assertEqual((one.held(), other.held(), third.held()), (6, 4, 1))
        self.assertIs(other.knock(), True)
        self.assertEqual((one.held(), other.held(), third.held()), (6, 1, 1))
        self.assertEqual(Purse(purse).held(), 4)
        self.assertEqual(purse, (2, 3, 7, 4))
        self.assertEqual(coins_behind(purse, ""), 4)

    def test_later(self):
        self.assertEqual(later((2, 3, 7, 4), 0), (2, 3, 7, 0))
        self.assertEqual(later((2, 3, 7, 4), 7), (2, 3, 7, 7))
        self.assertEqual(later(LEAST, 0), LEAST)
        self.assertEqual(later(GREATEST, 10000), GREATEST)
        for thing in (8, -1, HUGE, -HUGE, GREAT, True, False, None, "4", [4], (4,), {4: 4}, ""):
            self.assertEqual(refusal(self, NoNumber, later, (2, 3, 7, 4), thing), {})
        self.assertEqual(refusal(self, NoNumber, later, LEAST, 1), {})
        self.assertEqual(refusal(self, NoNumber, later, LEAST, False), {})

    def test_later_of_whatever(self):
        for thing in whatever():
            if isinstance(thing, int) and not isinstance(thing, bool) and 0 <= thing <= 5:
                self.assertEqual(later((1, 1, 5, 0), thing), (1, 1, 5, thing))
            else:
                refusal(self, NoNumber, later, (1, 1, 5, 0), thing)


class Together(unittest.TestCase):
    def test_one_asking_more_pays_no_fewer(self):
        for purse in SMALL[::4]:
            for row in SHORT_ROWS[::3]:
                for at in range(len(row) + 1):
                    self.assertGreaterEqual(paid_in(purse, row[:at] + "a" + row[at:]), paid_in(purse, row))

    def test_behind_a_row_a_purse_pays_as_the_later_one(self):
        mixer = random.Random(47)
        for purse in PURSES:
            row = "".join(mixer.choice("aak") for _ in range(60))
            for at in (0, 1, 17, 59, 60):
                then = later(purse, coins_behind(purse, row[:at]))
                self.assertIs(purse_good(then), True)
                self.assertEqual(coins_behind(then, row[at:]), coins_behind(purse, row))
                self.assertEqual(paid_in(purse, row[:at]) + paid_in(then, row[at:]), paid_in(purse, row))
                self.assertEqual(unpaid_at(purse, row[:at]) + [at + place for place in unpaid_at(then, row[at:])],
                                 unpaid_at(purse, row))

    def test_most_paid_with_one_asking_more(self):
        for purse in PURSES:
            part, price, cap, first = purse
            for n in (0, 1, 2, 3, 40, 1000, FAR - 1):
                more = most_paid(purse, n + 1) - most_paid(purse, n)
                self.assertGreaterEqual(more, 0)
                self.assertLessEqual(more, (part + price - 1) // price)

    def test_no_row_pays_more_than_most_paid(self):
        for purse, row in itertools.product(SMALL[::2], SHORT_ROWS[::2]):
            self.assertLessEqual(paid_in(purse, row), most_paid(purse, row.count("a")))

    def test_purses_that_no_row_parts_pay_alike(self):
        mixer = random.Random(48)
        rows = ["".join(mixer.choice("ak") for _ in range(100)) for _ in range(5)]
        alike = 0
        for one, other in itertools.product(SMALL[::5], SMALL[::3]):
            if parted_by(one, other) is None:
                alike += 1
                for row in rows:
                    self.assertEqual(unpaid_at(one, row), unpaid_at(other, row))
        self.assertGreater(alike, 100)

    def test_long_rows_and_rows_tell_alike(self):
        for purse, row in itertools.product(PURSES[::3], SHORT_ROWS[::7]):
            self.assertEqual(far_behind(purse, tuple((sign, 1) for sign in row)),
                             (coins_behind(purse, row), paid_in(purse, row)))


if __name__ == "__main__":
    unittest.main()
