"""Callers and stories as texts (point 10.1)."""

from knockpurse.callers import caller_plan_good
from knockpurse.errors import NoText
from knockpurse.gaps import gaps_good
from knockpurse.gates import gate_good
from knockpurse.purses import purse_good
from knockpurse.stories import story_good

FIGURES = "0123456789"
MOST_FIGURES = 30
MOST_ROWS = 4
GAPS = "gaps"
PLAN = "plan"
PURSE = "purse"
GATE = "gate"
STORY = "story"


def number_good(word):
    """Whether a word is a number as it is written."""
    if len(word) < 1 or len(word) > MOST_FIGURES:
        return False
    return all([sign in FIGURES for sign in word]) and (word == "0" or word[0] != "0")


def numbers_of(words):
    """The numbers that words write, () where one of them writes none."""
    if not all([number_good(word) for word in words]):
        return ()
    return tuple([int(word) for word in words])


def row_shown(word, numbers):
    """The row of a word and numbers."""
    return " ".join([word] + [str(number) for number in numbers])


def row_read(rows, number, word):
    """The numbers of the row of a number, from 1 on, () where there is none or it does not begin with the word."""
    if number > len(rows):
        return ()
    first, *rest = rows[number - 1].split(" ")
    if first != word:
        return ()
    return numbers_of(rest)


def caller_shown(caller):
    """The text of a caller."""
    (gaps, knocks, time), purse, gate = caller
    return "\n".join([
        row_shown(GAPS, gaps), row_shown(PLAN, (knocks, time)), row_shown(PURSE, purse), row_shown(GATE, gate),
    ])


def caller_read(text):
    """The caller that a text writes."""
    if not isinstance(text, str):
        raise NoText(0)
    rows = text.split("\n")
    # Of a row that is missing or wrongly written there are no numbers, and these are no gaps, plan, purse or gate.
    gaps = row_read(rows, 1, GAPS)
    plan = (gaps,) + row_read(rows, 2, PLAN)
    purse = row_read(rows, 3, PURSE)
    gate = row_read(rows, 4, GATE)
    right = [gaps_good(gaps), caller_plan_good(plan), purse_good(purse), gate_good(gate), len(rows) == MOST_ROWS]
    for at, good in enumerate(right):
        if not good:
            raise NoText(at + 1)
    return (plan, purse, gate)


def story_shown(story):
    """The text of a story."""
    return " ".join([STORY] + [f"{first}-{last}" for first, last in story])


def story_read(text):
    """The story that a text writes."""
    if not isinstance(text, str):
        raise NoText(0)
    word, *rest = text.split(" ")
    story = tuple([numbers_of(stretch.split("-")) for stretch in rest])
    if word != STORY or not story_good(story):
        raise NoText(1)
    return story
