"""A desk that is told deeds of a caller and its house, row by row, and asked how it stands (points 10.2 to 10.4)."""

from knockpurse.callers import SERVED, first_of, stepped
from knockpurse.errors import NoBeat, NoLine, NoNumber
from knockpurse.gates import HELD
from knockpurse.stories import SILENT, both, either, healed_at, other_way, silent_at
from knockpurse.texts import caller_shown, number_good, story_shown
from knockpurse.wholes import LAST_BEAT

MOST_ASKED = 20
MOST_GONE = 200
OK = "ok"
NONE = "none"
BACK = "back"


def joined(things):
    """Things with a blank between each two, none where there are none."""
    if len(things) == 0:
        return NONE
    return " ".join([str(thing) for thing in things])


def with_colons(things):
    """Things with a colon between each two, without those that are None."""
    return ":".join([str(thing) for thing in things if thing is not None])


def told_story(state, numbers):
    """The story that is silent at the told beats alone."""
    standing, asked, story = state
    first, last = numbers
    if first < standing[0] or first >= last or last > LAST_BEAT:
        raise NoBeat()
    return ((first, last),)


def make_silent(caller, state, numbers):
    """The house will be silent at the told beats."""
    standing, asked, story = state
    return ((standing, asked, either(story, told_story(state, numbers))), OK)


def make_sound(caller, state, numbers):
    """The house will be sound at the told beats."""
    standing, asked, story = state
    others = other_way(told_story(state, numbers), LAST_BEAT)
    return ((standing, asked, both(story, others)), OK)


def ask_more(caller, state, numbers):
    """So many askings more begin at the beat that comes next."""
    standing, asked, story = state
    more = numbers[0]
    if more < 1 or asked + more > MOST_ASKED:
        raise NoNumber()
    return ((standing, asked + more, story), OK)


def beats_gone(caller, state, many):
    """The state behind so many beats, and all their events."""
    standing, asked, story = state
    told = []
    for gone in range(many):
        sound = not silent_at(story, standing[0])
        standing, events = stepped(caller, standing, sound, asked)
        told.extend(events)
        asked = 0
    return ((standing, asked, story), told)


def step_on(caller, state, numbers):
    """The beat that comes next is gone."""
    then, events = beats_gone(caller, state, 1)
    return (then, joined([with_colons(event) for event in events]))


def go_on(caller, state, numbers):
    """So many beats are gone."""
    many = numbers[0]
    if many < 1 or many > MOST_GONE:
        raise NoNumber()
    then, events = beats_gone(caller, state, many)
    words = [word for number, word, what in events]
    return (then, joined([words.count(SERVED), words.count(SILENT), words.count(HELD)]))


def tell_beat(caller, state):
    """The beat that comes next."""
    return str(state[0][0])


def tell_asked(caller, state):
    """How many askings begin at the beat that comes next."""
    return str(state[1])


def tell_begun(caller, state):
    """How many askings have begun."""
    return str(state[0][4])


def tell_coins(caller, state):
    """The coins of the purse."""
    return str(state[0][2])


def tell_gate(caller, state):
    """The standing of the gate."""
    return joined(state[0][3])


def tell_waiting(caller, state):
    """The askings that wait."""
    return joined([with_colons((due, number, tries)) for due, number, begin, tries in state[0][1]])


def tell_story(caller, state):
    """The story of the house."""
    return story_shown(state[2])


def tell_healed(caller, state):
    """The least beat from which on the house is sound."""
    return str(healed_at(state[2]))


def tell_shown(caller, state):
    """The caller."""
    return caller_shown(caller).replace("\n", " ; ")


DEEDS = {
    "silent": make_silent,
    "sound": make_sound,
    "ask": ask_more,
    "step": step_on,
    "go": go_on,
}
QUESTIONS = {
    "beat": tell_beat,
    "asked": tell_asked,
    "begun": tell_begun,
    "coins": tell_coins,
    "gate": tell_gate,
    "waiting": tell_waiting,
    "story": tell_story,
    "healed": tell_healed,
    "shown": tell_shown,
}
NUMBERS_DUE = {"silent": 2, "sound": 2, "ask": 1, "go": 1}


def line_read(row):
    """The word of a row and its numbers."""
    if not isinstance(row, str):
        raise NoLine()
    word, *rest = row.split(" ")
    if word != BACK and word not in DEEDS and word not in QUESTIONS:
        raise NoLine()
    if len(rest) != NUMBERS_DUE.get(word, 0) or not all([number_good(each) for each in rest]):
        raise NoLine()
    return (word, [int(each) for each in rest])


class Desk:
    """A desk of a caller, that keeps a state (standing, asked, story) behind each deed that stands."""

    def __init__(self, caller):
        self.caller = caller
        self.states = [(first_of(caller), 0, ())]

    def say(self, row):
        """The answer to a row."""
        word, numbers = line_read(row)
        if word == BACK:
            return self.undo()
        if word in QUESTIONS:
            question = QUESTIONS[word]
            return question(self.caller, self.states[-1])
        deed = DEEDS[word]
        state, answer = deed(self.caller, self.states[-1], numbers)
        self.states.append(state)
        return answer

    def undo(self):
        """Undo the last deed that stands."""
        if len(self.states) == 1:
            raise NoLine()
        self.states.pop()
        return OK
