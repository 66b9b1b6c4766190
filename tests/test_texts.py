"""Point 10.1."""

import random
import re
import unittest

from knockpurse.callers import caller_good
from knockpurse.errors import NoText
from knockpurse.gaps import gaps_good
from knockpurse.gates import gate_good
from knockpurse.purses import purse_good
from knockpurse.stories import story_good, story_of
from knockpurse.texts import caller_read, caller_shown, story_read, story_shown
from tests.test_callers import CALLER, GREATEST, LEAST, random_caller
from tests.things import asked_fairly, outcome, refusal, whatever

TEXT = "gaps 3 2 1 50\nplan 4 100\npurse 2 3 7 4\ngate 2 4 2 10 2"
ROWS = TEXT.split("\n")
THIRTY = "1" + "0" * 29
COMB = tuple((3 * at, 3 * at + 1) for at in range(200))
NUMBER = re.compile(r"(0|[1-9][0-9]{0,29})\Z")
NO_NUMBERS = [
    "", "00", "01", "007", "+1", "-1", "-0", "1.0", "1e3", "0x1", "1_0", "a", "one", "1a", "a1", "1,", "\t1", "1\t", "\n", "1" + "0" * 30, "0" * 31,
]


def numbers_by_words(row, name, many):
    """The numbers of a row that is written as told, None of another one, word by word."""
    words, word = [], ""
    for sign in row + " ":
        if sign == " ":
            words.append(word)
            word = ""
        else:
            word += sign
    if words[0] != name or len(words) != many + 1 or any(NUMBER.match(each) is None for each in words[1:]):
        return None
    return tuple(int(each) for each in words[1:])


def read_by_words(text):
    """What caller_read tells, or the number of the row that is refused, straight out of point 10.1's words."""
    rows = [row for row in re.split("\n", text)]
    parts = []
    for at, (name, many) in enumerate((("gaps", 4), ("plan", 2), ("purse", 4), ("gate", 5))):
        if at == len(rows):
            return len(rows) + 1
        numbers = numbers_by_words(rows[at], name, many)
        if numbers is None:
            return at + 1
        if name == "gaps" and not gaps_good(numbers) or name == "purse" and not purse_good(numbers) or name == "gate" and not gate_good(numbers):
            return at + 1
        if name == "plan" and not (1 <= numbers[0] <= 200 and 0 <= numbers[1] <= 1000):
            return at + 1
        parts.append(numbers)
    if len(rows) > 4:
        return 5
    gaps, (knocks, time), purse, gate = parts
    return (gaps, knocks, time), purse, gate


def refused_row(case, function, thing):
    return refusal(case, NoText, function, thing)["row"]


class CallerTexts(unittest.TestCase):
    def test_named_ones(self):
        for caller, text in (
            (CALLER, TEXT), (LEAST, "gaps 1 1 0 1\nplan 1 0\npurse 0 1 0 0\ngate 1 1 1 1 1"),
            (GREATEST, "gaps 1000 10 1000 1000\nplan 200 1000\npurse 1000 1000 10000 10000\ngate 20 1000 10 1000 10"),
        ):
            self.assertEqual(asked_fairly(self, caller_shown, caller), text)
            self.assertEqual(repr(asked_fairly(self, caller_read, text)), repr(caller))

    def test_shown_and_read_lead_back_to_one_another(self):
        mixer = random.Random(101)
        for _ in range(300):
            caller = random_caller(mixer)
            text = caller_shown(caller)
            self.assertEqual(repr(caller_read(text)), repr(caller))
            self.assertEqual(caller_shown(caller_read(text)), text)
            self.assertEqual(read_by_words(text), caller)

    def test_too_few_and_too_many_rows(self):
        for many in range(4):
            self.assertEqual(refused_row(self, caller_read, "\n".join(ROWS[:many])), many + 1)
            self.assertEqual(refused_row(self, caller_read, "\n".join(ROWS[:many]) + "\n"), many + 1 if many else 1)
        for more in ("\n", "\n\n", "\nmore", "\ngate 2 4 2 10 2", "\n" + TEXT, "\n ", "\n\t"):
            self.assertEqual(refused_row(self, caller_read, TEXT + more), 5)
        self.assertEqual(refused_row(self, caller_read, "\n" + TEXT), 1)
        self.assertEqual(refused_row(self, caller_read, TEXT.replace("\n", "\n\n")), 2)

    def test_the_first_wrong_row_is_told(self):
        for at in range(4):
            for behind in (ROWS[at + 1:], [], ["wrong"] * (3 - at), ["wrong"] * 7, ROWS[at + 1:] + ["fifth"]):
                self.assertEqual(refused_row(self, caller_read, "\n".join(ROWS[:at] + ["wrong"] + behind)), at + 1)

    def test_rows_that_are_not_so_written(self):
        for at, row in enumerate(ROWS):
            words = row.split(" ")
            wrong = [
                "", " ", " " + row, row + " ", row.replace(" ", "  ", 1), row.replace(" ", "  "), row.replace(" ", "\t"), row + " 1", row + " x",
                " ".join(words[:-1]), words[0], " ".join(words[1:]), row.upper(), row.title(), row[1:], words[0] + row, row + "\t", "\t" + row,
                row.replace(" ", ""), row.replace(" ", ", "), ROWS[(at + 1) % 4], ROWS[at - 1], row + ";", words[0] + "s " + " ".join(words[1:]),
            ]
            for place in range(1, len(words)):
                wrong += [" ".join(words[:place] + [each] + words[place + 1:]) for each in NO_NUMBERS]
            for thing in wrong:
                text = "\n".join(ROWS[:at] + [thing] + ROWS[at + 1:])
                self.assertEqual(refused_row(self, caller_read, text), at + 1, thing)

    def test_rows_that_tell_none(self):
        for at, things in enumerate((
            ("gaps 0 2 1 50", "gaps 1001 2 1 50", "gaps 3 0 1 50", "gaps 3 11 1 50", "gaps 3 2 1001 50", "gaps 3 2 1 0", "gaps 3 2 1 1001"),
            ("plan 0 100", "plan 201 100", "plan 4 1001", "plan 4 400000", "plan 4 400001"),
            ("purse 1001 3 7 4", "purse 2 0 7 4", "purse 2 1001 7 4", "purse 2 3 10001 4", "purse 2 3 7 8", "purse 2 3 3 4"),
            ("gate 0 4 2 10 2", "gate 21 4 2 10 2", "gate 2 0 2 10 2", "gate 2 11 2 10 2", "gate 2 4 0 10 2", "gate 2 4 11 10 2",
             "gate 2 4 2 1001 2", "gate 2 4 2 10 0", "gate 2 4 2 10 11"),
        )):
            for thing in things + (ROWS[at].rsplit(" ", 1)[0] + " " + THIRTY, ROWS[at].rsplit(" ", 1)[0] + " " + THIRTY + "0"):
                for behind in (ROWS[at + 1:], [], ["wrong"]):
                    self.assertEqual(refused_row(self, caller_read, "\n".join(ROWS[:at] + [thing] + behind)), at + 1, thing)

    def test_ends_of_the_ranges(self):
        for at, things in enumerate((
            ("gaps 1 1 0 1", "gaps 1000 10 1000 1000"), ("plan 1 0", "plan 200 1000"), ("purse 0 1 0 0", "purse 1000 1000 10000 10000"),
            ("gate 1 1 1 1 1", "gate 20 1000 10 1000 10"),
        )):
            for thing in things:
                text = "\n".join(ROWS[:at] + [thing] + ROWS[at + 1:])
                self.assertEqual(caller_read(text), read_by_words(text))
                self.assertIs(caller_good(caller_read(text)), True)

    def test_what_is_no_text(self):
        for thing in whatever() + [[TEXT], (TEXT,), ROWS, {TEXT: TEXT}, CALLER]:
            if not isinstance(thing, str):
                self.assertEqual(refused_row(self, caller_read, thing), 0, thing)
            else:
                self.assertEqual(refused_row(self, caller_read, thing), 1, thing)

    def test_spoiled_texts_word_by_word(self):
        mixer = random.Random(1011)
        told, refused = 0, set()
        for _ in range(6000):
            text = caller_shown(random_caller(mixer))
            for _ in range(mixer.randrange(1, 3)):
                at = mixer.randrange(len(text) + 1)
                put = mixer.choice((" ", "\n", "0", "1", "9", "99", "-", "a", "\t", "", "", "gate", THIRTY))
                text = text[:at] + put + text[at + mixer.randrange(3):]
            wanted = read_by_words(text)
            answer = outcome(caller_read, [text])
            if isinstance(wanted, int):
                self.assertEqual(answer, ("refused", "NoText", {"row": wanted}), text)
                refused.add(wanted)
            else:
                self.assertEqual(answer, ("told", repr(wanted)), text)
                told += 1
        self.assertEqual(refused, {1, 2, 3, 4, 5})
        self.assertGreater(told, 100)


class StoryTexts(unittest.TestCase):
    def test_named_ones(self):
        for story, text in (
            ((), "story"), (((0, 1),), "story 0-1"), (((0, 14), (20, 21)), "story 0-14 20-21"), (((0, 1000000),), "story 0-1000000"),
            (((999999, 1000000),), "story 999999-1000000"), (COMB, "story " + " ".join(f"{first}-{last}" for first, last in COMB)),
        ):
            self.assertEqual(asked_fairly(self, story_shown, story), text)
            self.assertEqual(repr(asked_fairly(self, story_read, text)), repr(story))

    def test_shown_and_read_lead_back_to_one_another(self):
        mixer = random.Random(102)
        for _ in range(200):
            story = story_of([mixer.randrange(300) for _ in range(mixer.randrange(60))])
            self.assertEqual(repr(story_read(story_shown(story))), repr(story))
            self.assertEqual(story_shown(story_read(story_shown(story))), story_shown(story))

    def test_two_hundred_and_one_stretches(self):
        self.assertEqual(len(story_read(story_shown(COMB))), 200)
        self.assertEqual(refused_row(self, story_read, story_shown(COMB) + " 600-601"), 1)

    def test_what_is_not_so_written(self):
        for text in (
            "", " ", "story ", " story", "Story", "STORY", "stor", "storys", "story\n", "\nstory", "story\t", "0-1", "story0-1", "story  0-1", "story 0-1 ",
            " story 0-1", "story 0-1  3-4", "story 0-1\n", "story\n0-1", "story 0-1\n3-4", "story\t0-1", "story 0 1", "story 0", "story 0-", "story -1",
            "story 0--1", "story -0-1", "story 0-1-2", "story 0-1,", "story 0-1,3-4", "story 0 -1", "story 0- 1", "story 0 - 1", "story 00-1", "story 0-01",
            "story a-1", "story 0-b", "story +0-1", "story 0-1.0", "story none", "story ()", "story -", "story 0_0-1", "story 0-1 story", "gaps 0-1",
            "story 0-1 x", "story 0-1" + "0" * 30, "story story",
        ):
            self.assertEqual(refused_row(self, story_read, text), 1, text)

    def test_what_is_no_story(self):
        for text in (
            "story 0-0", "story 1-0", "story 5-5", "story 0-1 1-2", "story 0-2 1-3", "story 3-4 0-1", "story 0-1 0-1", "story 0-1000001",
            "story 1000000-1000001", "story 1000000-1000000", "story 0-" + THIRTY, "story " + THIRTY + "-" + THIRTY, "story 0-1 3-4 4-5",
        ):
            self.assertEqual(refused_row(self, story_read, text), 1, text)

    def test_what_is_no_text(self):
        for thing in whatever() + [["story"], ("story",), {"story": "story"}, ((0, 1),)]:
            self.assertEqual(refused_row(self, story_read, thing), 1 if isinstance(thing, str) else 0, thing)

    def test_spoiled_texts_word_by_word(self):
        mixer = random.Random(1021)
        answers = []
        for _ in range(4000):
            text = story_shown(story_of([mixer.randrange(60) for _ in range(mixer.randrange(9))]))
            at = mixer.randrange(len(text) + 1)
            text = text[:at] + mixer.choice((" ", "-", "0", "1", "9", "", "\n", "a")) + text[at + mixer.randrange(2):]
            wanted = None
            if re.match(r"story( (0|[1-9][0-9]{0,29})-(0|[1-9][0-9]{0,29}))*\Z", text):
                stretches = tuple(tuple(int(each) for each in word.split("-")) for word in text.split(" ")[1:])
                wanted = stretches if story_good(stretches) else None
            if wanted is None:
                self.assertEqual(outcome(story_read, [text]), ("refused", "NoText", {"row": 1}), text)
            else:
                self.assertEqual(outcome(story_read, [text]), ("told", repr(wanted)), text)
            answers.append(wanted is None)
        self.assertTrue(answers.count(True) > 200 and answers.count(False) > 200)


if __name__ == "__main__":
    unittest.main()
