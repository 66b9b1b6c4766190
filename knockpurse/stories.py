"""Stories of a house: the stretches of beats at which it is silent (points 2.1 to 2.6)."""

from knockpurse.errors import NoBeat, NoNumber, NoStep, NoStory, TooGreat
from knockpurse.wholes import LAST_BEAT, choices, is_whole, whole_in

MOST_STRETCHES = 200
MOST_STORIES = 300
MOST_LOOKS = 12
SILENT = "silent"
SOUND = "sound"


def stretch_good(thing):
    """Whether a thing of whatever kind is a stretch."""
    if not isinstance(thing, tuple) or len(thing) != 2:
        return False
    if not is_whole(thing[0]) or not is_whole(thing[1]):
        return False
    return 0 <= thing[0] < thing[1] <= LAST_BEAT


def story_good(thing):
    """Whether a thing of whatever kind is a story."""
    if not isinstance(thing, tuple) or len(thing) > MOST_STRETCHES:
        return False
    ahead = -1
    for stretch in thing:
        if not stretch_good(stretch) or stretch[0] <= ahead:
            return False
        ahead = stretch[1]
    return True


def stretches_of(beats):
    """The stretches, however many, that are silent at just these rising beats."""
    stretches = []
    for beat in beats:
        if stretches and stretches[-1][1] == beat:
            stretches[-1] = (stretches[-1][0], beat + 1)
        else:
            stretches.append((beat, beat + 1))
    return tuple(stretches)


def story_of(things):
    """The story that is silent at just these beats, in any order."""
    for place, thing in enumerate(things):
        if not whole_in(thing, 0, LAST_BEAT - 1):
            raise NoStory(place)
    stretches = stretches_of(sorted(set(things)))
    if len(stretches) > MOST_STRETCHES:
        raise NoStory(len(things))
    return stretches


def silent_at(story, beat):
    """Whether the house is silent at a beat."""
    return any([first <= beat < last for first, last in story])


def healed_at(story):
    """The least beat from which on the house is sound."""
    if not story:
        return 0
    return story[-1][1]


def next_sound(story, beat):
    """The least beat from a beat on at which the house is sound."""
    for first, last in story:
        if first <= beat < last:
            return last
    return beat


def next_silent(story, beat):
    """The least beat from a beat on at which the house is silent, None where there is none."""
    for first, last in story:
        if beat < last:
            return max(first, beat)
    return None


def silent_many(story, first, last):
    """How many of the beats from first on and less than last are silent."""
    return sum([max(0, min(end, last) - max(start, first)) for start, end in story])


def longest_of(story):
    """The longest stretch, of several the first, None of no stretch."""
    return max(story, key=lambda stretch: stretch[1] - stretch[0], default=None)


def fitting(stretches):
    """The story of these stretches, refused where they are too many."""
    if len(stretches) > MOST_STRETCHES:
        raise TooGreat(len(stretches), MOST_STRETCHES)
    return tuple(stretches)


def either(one, other):
    """The story that is silent where one of two is or both are."""
    stretches = []
    for first, last in sorted(one + other):
        # Stretches that only touch are one stretch of a story, too.
        if stretches and first <= stretches[-1][1]:
            stretches[-1] = (stretches[-1][0], max(stretches[-1][1], last))
        else:
            stretches.append((first, last))
    return fitting(stretches)


def both(one, other):
    """The story that is silent where both of two are."""
    shared = [(max(a, c), min(b, d)) for a, b in one for c, d in other]
    return fitting([(first, last) for first, last in shared if first < last])


def other_way(story, beat):
    """The story that is silent at just those beats less than a beat at which this one is sound."""
    stretches = []
    sound_from = 0
    for first, last in story:
        stretches.append((sound_from, min(first, beat)))
        sound_from = last
    stretches.append((sound_from, beat))
    return fitting([(first, last) for first, last in stretches if first < last])


def later_by(story, by):
    """The story so many beats later, without what would be ahead of beat 0."""
    moved = [(max(0, first + by), last + by) for first, last in story if last + by > 0]
    if healed_at(moved) > LAST_BEAT:
        raise NoBeat()
    return tuple(moved)


def story_at(number, n):
    """The story of n beats of a number."""
    if not whole_in(number, 0, (1 << n) - 1):
        raise NoNumber()
    return stretches_of([beat for beat in range(n) if (number >> beat) % 2 == 1])


def number_of(story):
    """The number of a story."""
    # The powers of 2 from one on and less than another are the difference of the two.
    return sum([(1 << last) - (1 << first) for first, last in story])


def silent_choices(n, k):
    """How many stories of n beats are silent at just k."""
    return choices(n, k)


def stretch_choices(n, k):
    """How many tuples of k stretches there are that are silent at no beat from n on."""
    # All the ends of stretches rise, so they are any 2 * k of the numbers from 0 to n.
    return choices(n + 1, 2 * k)


def numbers_with(n, k):
    """The rising numbers of the stories of n beats that are silent at just k."""
    begun = [(0, k)]
    for beat in reversed(range(n)):
        further = []
        for number, left in begun:
            # Only what can still be ended is gone on with, so there are never more than at last.
            if left <= beat:
                further.append((number, left))
            if left > 0:
                further.append((number + (1 << beat), left - 1))
        begun = further
    return [number for number, left in begun if left == 0]


def stories_with(n, k):
    """All stories of n beats that are silent at just k, by their numbers."""
    many = silent_choices(n, k)
    if many > MOST_STORIES:
        raise TooGreat(many, MOST_STORIES)
    return [story_at(number, n) for number in numbers_with(n, k)]


def look_good(thing):
    """Whether a thing of whatever kind is a look."""
    if not isinstance(thing, tuple) or len(thing) != 2:
        return False
    return whole_in(thing[0], 0, LAST_BEAT - 1) and thing[1] in (SILENT, SOUND)


def looks_good(thing):
    """Whether a thing of whatever kind is looks."""
    if not isinstance(thing, tuple) or len(thing) > MOST_LOOKS:
        return False
    return all([look_good(look) for look in thing])


def holds(story, thing):
    """Whether a thing of whatever kind is looks that a story holds."""
    if not looks_good(thing):
        return False
    return all([silent_at(story, beat) == (word == SILENT) for beat, word in thing])


def story_for(looks):
    """The story with the fewest stretches, then silent beats, that holds looks, None where none does."""
    if not looks_good(looks):
        raise NoStep()
    stretches = []
    parted = True
    for beat, word in sorted(looks):
        if word == SOUND:
            parted = True
        elif parted:
            stretches.append((beat, beat + 1))
            parted = False
        else:
            stretches[-1] = (stretches[-1][0], beat + 1)
    story = tuple(stretches)
    # It holds all looks unless two of them speak against one another.
    if not holds(story, looks):
        return None
    return story
