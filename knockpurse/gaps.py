"""Growing gaps between knocks, and shakes that make them shorter (points 1.1 to 1.4)."""

from knockpurse.errors import NoNumber
from knockpurse.wholes import is_whole, wholes_in

GAPS_BOUNDS = ((1, 1000), (1, 10), (0, 1000), (1, 1000))
MOST_BEATS = 60
MOST_SHAKE = 100


def gaps_good(thing):
    """Whether a thing of whatever kind is gaps."""
    return wholes_in(thing, GAPS_BOUNDS)


def growing(gaps, many):
    """The first many gaps, one at least, without those that are like the last one told."""
    first, times, more, most = gaps
    row = [min(first, most)]
    while len(row) < many:
        further = min(times * row[-1] + more, most)
        # A gap hangs on the one ahead alone: once two are alike, all further ones are.
        if further == row[-1]:
            break
        row.append(further)
    return row


def all_growing(gaps):
    """The gaps up to the first one that all further ones are like."""
    # Each is greater than the one ahead and none greater than most: so many reach them all.
    return growing(gaps, gaps[3] + 1)


def first_gaps(gaps, many):
    """The first many gaps."""
    row = growing(gaps, many)
    return (row + [row[-1]] * (many - len(row)))[:many]


def gap_at(gaps, k):
    """The k-th gap."""
    return growing(gaps, k)[-1]


def sum_of(gaps, k):
    """The first k gaps together."""
    if k == 0:
        return 0
    row = growing(gaps, k)
    return sum(row) + (k - len(row)) * row[-1]


def knocks_within(gaps, n):
    """The greatest k of which the first k gaps together are no more than n."""
    row = all_growing(gaps)
    left = n
    for k, gap in enumerate(row):
        if gap > left:
            return k
        left -= gap
    return len(row) + left // row[-1]


def beats_behind(row):
    """The beats of knocks that have the gaps of a row between them, the first one at 0."""
    beats = [0]
    for gap in row:
        beats.append(beats[-1] + gap)
    return beats


def beats_of(gaps, many):
    """The beats of the first many knocks."""
    return beats_behind(first_gaps(gaps, many))[:many]


def settled_at(gaps):
    """The least k from which on all gaps are alike."""
    return len(all_growing(gaps))


def first_less(one, other):
    """The least k at which one's gap is less than other's, None where there is none."""
    # Behind the later of the two settlings nothing changes any more.
    many = max(settled_at(one), settled_at(other))
    for at, (gap, other_gap) in enumerate(zip(first_gaps(one, many), first_gaps(other, many))):
        if gap < other_gap:
            return at + 1
    return None


def gap_by_shake(gap, shake):
    """What a gap becomes by a shake."""
    return gap - gap * shake // 200


def shaken(gaps, shakes):
    """The beats of knocks, one more than shakes, each gap shaken by its shake."""
    row = first_gaps(gaps, len(shakes))
    return beats_behind([gap_by_shake(gap, shake) for gap, shake in zip(row, shakes)])


def knock_beats_good(thing):
    """Whether a thing of whatever kind is a list of one to sixty rising whole numbers from 0."""
    if not isinstance(thing, list) or len(thing) < 1 or len(thing) > MOST_BEATS:
        return False
    if not all([is_whole(beat) for beat in thing]):
        return False
    return thing[0] == 0 and all([ahead < beat for ahead, beat in zip(thing, thing[1:])])


def shake_for(gap, wanted):
    """The least shake by which a gap becomes the wanted one, None where there is none."""
    for shake in range(MOST_SHAKE + 1):
        if gap_by_shake(gap, shake) == wanted:
            return shake
    return None


def shakes_for(gaps, beats):
    """Some shakes that make just these beats, None where there are none."""
    if not knock_beats_good(beats):
        raise NoNumber()
    shakes = []
    for at, gap in enumerate(first_gaps(gaps, len(beats) - 1)):
        shake = shake_for(gap, beats[at + 1] - beats[at])
        if shake is None:
            return None
        shakes.append(shake)
    return tuple(shakes)
