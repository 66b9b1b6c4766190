"""Purses out of which further knocks are paid (points 4.1 to 4.7)."""

from knockpurse.errors import NoNumber, NoStep, TooGreat
from knockpurse.wholes import whole_in, wholes_in

PURSE_BOUNDS = ((0, 1000), (1, 1000), (0, 10000), (0, 10000))
ASK = "a"
KNOCK = "k"
MOST_DEEDS = 200
MOST_TUPLES = 20
MOST_MANY = 1000000000000
MOST_CAP = 60


def purse_good(thing):
    """Whether a thing of whatever kind is a purse."""
    return wholes_in(thing, PURSE_BOUNDS) and thing[3] <= thing[2]


def coins_asked(purse, coins, many):
    """The coins behind so many askings that begin, one behind the other."""
    return min(coins + many * purse[0], purse[2])


def can_pay(purse, coins):
    """Whether a further knock is paid out of these coins."""
    return coins >= purse[1]


def coins_by(purse, coins, sign):
    """The coins behind one deed."""
    if sign == ASK:
        return coins_asked(purse, coins, 1)
    if can_pay(purse, coins):
        return coins - purse[1]
    return coins


class Purse:
    """A purse that keeps its coins."""

    def __init__(self, purse):
        self.purse = purse
        self.coins = purse[3]

    def ask(self):
        """An asking begins: its part is put in."""
        self.coins = coins_by(self.purse, self.coins, ASK)

    def knock(self):
        """A further knock is wanted: whether it is paid."""
        paid = can_pay(self.purse, self.coins)
        self.coins = coins_by(self.purse, self.coins, KNOCK)
        return paid

    def held(self):
        """How many coins there are."""
        return self.coins


def signs_good(thing):
    """Whether a thing of whatever kind is a text of deeds, however long."""
    return isinstance(thing, str) and all([sign in (ASK, KNOCK) for sign in thing])


def gone_by(purse, row):
    """The coins behind a row, and the places of its knocks that are not paid."""
    kept = Purse(purse)
    unpaid = []
    for place, sign in enumerate(row):
        if sign == ASK:
            kept.ask()
        elif not kept.knock():
            unpaid.append(place)
    return (kept.held(), unpaid)


def gone_by_row(purse, row):
    """What gone_by tells of a row of at most 200 deeds, refused where it is none."""
    if not signs_good(row) or len(row) > MOST_DEEDS:
        raise NoStep()
    return gone_by(purse, row)


def coins_behind(purse, row):
    """How many coins there are behind a row."""
    return gone_by_row(purse, row)[0]


def paid_in(purse, row):
    """How many knocks of a row are paid."""
    unpaid = unpaid_at(purse, row)
    return row.count(KNOCK) - len(unpaid)


def unpaid_at(purse, row):
    """The places of the knocks of a row that are not paid."""
    return gone_by_row(purse, row)[1]


def many_deeds_good(thing):
    """Whether a thing of whatever kind is a sign and how many deeds of it there are."""
    if not isinstance(thing, tuple) or len(thing) != 2:
        return False
    return thing[0] in (ASK, KNOCK) and whole_in(thing[1], 0, MOST_MANY)


def long_row_good(thing):
    """Whether a thing of whatever kind is a long row."""
    if not isinstance(thing, tuple) or len(thing) > MOST_TUPLES:
        return False
    return all([many_deeds_good(deeds) for deeds in thing])


def far_behind(purse, row):
    """The coins behind a long row, and how many of its knocks are paid."""
    if not long_row_good(row):
        raise NoStep()
    coins = purse[3]
    paid = 0
    for sign, many in row:
        if sign == ASK:
            coins = coins_asked(purse, coins, many)
        else:
            payable = min(many, coins // purse[1])
            coins -= payable * purse[1]
            paid += payable
    return (coins, paid)


def most_paid(purse, n):
    """The most knocks that are paid in a row in which just n askings begin."""
    # Coins that are spent at once leave the most room below the cap, so no row pays more than that which does so.
    paid, left = divmod(purse[3], purse[1])
    totals = [paid]
    seen = {left: 0}
    while len(totals) <= n:
        paid, left = divmod(coins_asked(purse, left, 1), purse[1])
        totals.append(totals[-1] + paid)
        if left in seen:
            return going_round(totals, seen[left], n)
        seen[left] = len(totals) - 1
    return totals[n]


def going_round(totals, begin, n):
    """What totals come to at n, where behind the last told they grow as they did behind begin."""
    rounds, rest = divmod(n - begin, len(totals) - 1 - begin)
    return totals[begin + rest] + rounds * (totals[-1] - totals[begin])


def best_row(purse, n):
    """Some row of n askings that pays the most knocks, and wants no other one."""
    deeds = n + most_paid(purse, n)
    if deeds > MOST_DEEDS:
        raise TooGreat(deeds, MOST_DEEDS)
    paid, left = divmod(purse[3], purse[1])
    row = KNOCK * paid
    while row.count(ASK) < n:
        paid, left = divmod(coins_asked(purse, left, 1), purse[1])
        row += ASK + KNOCK * paid
    return row


def most_between(purse, n):
    """The most knocks that are paid in any stretch of any row in which just n askings begin."""
    part, price, cap, first = purse
    # More coins never pay fewer knocks; askings alone, ahead of the stretch, make the purse as full as it can be.
    fullest = cap if part > 0 else first
    return most_paid((part, price, cap, fullest), n)


def parts(one, other, thing):
    """Whether a thing of whatever kind is a row, however long, that parts two purses."""
    if not signs_good(thing) or not thing.endswith(KNOCK):
        return False
    ahead = thing[:-1]
    return can_pay(one, gone_by(one, ahead)[0]) != can_pay(other, gone_by(other, ahead)[0])


def parted_by(one, other):
    """The shortest row that parts two purses, of several the first, None where none does."""
    greater = max(one[2], other[2])
    if greater > MOST_CAP:
        raise TooGreat(greater, MOST_CAP)
    begin = (one[3], other[3])
    rows = {begin: ""}
    reached = [begin]
    at = 0
    # Coins are reached by their shortest row, of several the first, as "a" is gone ahead of "k".
    while at < len(reached):
        coins, other_coins = reached[at]
        row = rows[reached[at]]
        if can_pay(one, coins) != can_pay(other, other_coins):
            return row + KNOCK
        for sign in (ASK, KNOCK):
            further = (coins_by(one, coins, sign), coins_by(other, other_coins, sign))
            if further not in rows:
                rows[further] = row + sign
                reached.append(further)
        at += 1
    return None


def later(purse, coins):
    """The purse that begins with so many coins."""
    part, price, cap, first = purse
    if not whole_in(coins, 0, cap):
        raise NoNumber()
    return (part, price, cap, coins)
