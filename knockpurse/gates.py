"""Gates that shut before a silent house and let trials through (points 5.1 to 5.7)."""

from knockpurse.errors import NoNumber, NoStep, TooGreat
from knockpurse.gaps import beats_of, knocks_within
from knockpurse.stories import SILENT, silent_at
from knockpurse.wholes import LAST_BEAT, whole_in, wholes_in

GATE_BOUNDS = ((1, 20), (1, 1000), (1, 10), (1, 1000), (1, 10))
LAST_UNTIL = 1001000
MOST_COMINGS = 200
OPEN = "open"
SHUT = "shut"
TRYING = "trying"
HELD = "held"
ANSWERED = "answered"
FIRST_STANDING = ("open", 0)


def gate_good(thing):
    """Whether a thing of whatever kind is a gate."""
    return wholes_in(thing, GATE_BOUNDS) and thing[1] <= thing[3]


def standing_good(gate, thing):
    """Whether a thing of whatever kind is a standing of a gate."""
    fails, rest, times, most, trials = gate
    if not isinstance(thing, tuple) or len(thing) == 0:
        return False
    if thing[0] == OPEN:
        return wholes_in(thing[1:], ((0, fails - 1),))
    if thing[0] == SHUT:
        return wholes_in(thing[1:], ((0, LAST_UNTIL), (rest, most)))
    if thing[0] == TRYING:
        return wholes_in(thing[1:], ((0, trials - 1), (rest, most)))
    return False


def lets(gate, standing, beat):
    """Whether who comes at a beat is let through, and the standing behind it."""
    if standing[0] != SHUT:
        return (True, standing)
    word, until, now = standing
    if beat < until:
        return (False, standing)
    return (True, (TRYING, 0, now))


def heard(gate, standing, beat, answered):
    """The standing behind a knock at a beat, answered or not."""
    if standing[0] == SHUT:
        raise NoStep()
    if standing[0] == OPEN:
        return heard_open(gate, standing[1], beat, answered)
    return heard_trying(gate, standing, beat, answered)


def heard_open(gate, bad, beat, answered):
    """The standing behind a knock through an open gate that has seen so many bad ones."""
    fails, rest, times, most, trials = gate
    if answered:
        return FIRST_STANDING
    if bad + 1 == fails:
        return (SHUT, beat + rest, rest)
    return (OPEN, bad + 1)


def heard_trying(gate, standing, beat, answered):
    """The standing behind a trial."""
    fails, rest, times, most, trials = gate
    word, good, now = standing
    if not answered:
        then = min(times * now, most)
        return (SHUT, beat + then, then)
    if good + 1 == trials:
        return FIRST_STANDING
    return (TRYING, good + 1, now)


def come_along(gate, story, beats):
    """What comes of each runner that comes, and the standing behind them all."""
    standing = FIRST_STANDING
    words = []
    for beat in beats:
        through, standing = lets(gate, standing, beat)
        if through:
            answered = not silent_at(story, beat)
            standing = heard(gate, standing, beat, answered)
            words.append(ANSWERED if answered else SILENT)
        else:
            words.append(HELD)
    return (tuple(words), standing)


def rests_of(gate):
    """The gaps (1.1) that the rests of a gate are at a house that is silent all the time."""
    fails, rest, times, most, trials = gate
    return (rest, times, 0, most)


def most_let(gate, n):
    """How many knocks a gate lets through at most in n beats at a house that is silent all the time."""
    if n == 0:
        return 0
    # All that an open gate lets through may come at beat 0; then one comes as soon as each rest ends.
    return gate[0] + knocks_within(rests_of(gate), n - 1)


def row_for(gate, n):
    """Some row of comings in n beats of which as many are let through as can be."""
    many = most_let(gate, n)
    if many > MOST_COMINGS:
        raise TooGreat(many, MOST_COMINGS)
    if many == 0:
        return []
    fails = gate[0]
    return [0] * fails + beats_of(rests_of(gate), many - fails + 1)[1:]


def open_from(gate, h):
    """A beat behind which a gate stands open, where the house answers from h on and one comes at each beat."""
    if h == 0:
        return 0
    fails, rest, times, most, trials = gate
    return h + most + trials - 2


class Gate:
    """A gate that keeps its standing."""

    def __init__(self, gate):
        self.gate = gate
        self.standing = FIRST_STANDING
        self.latest = 0

    def come(self, beat):
        """Whether who comes at a beat is let through."""
        self.refuse_wrong(beat)
        through, standing = lets(self.gate, self.standing, beat)
        self.standing = standing
        self.latest = beat
        return through

    def hear(self, beat, answered):
        """The knock at a beat was answered or not."""
        self.refuse_wrong(beat)
        self.standing = heard(self.gate, self.standing, beat, answered)
        self.latest = beat

    def stands(self):
        """The standing."""
        return self.standing

    def refuse_wrong(self, beat):
        """Refuse what is no beat, or a beat ahead of one that was told before."""
        # Up to the last beat, so that each shut standing ends by the last until that a standing may have.
        if not whole_in(beat, self.latest, LAST_BEAT):
            raise NoNumber()
