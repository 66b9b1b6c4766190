"""Points 10.2 to 10.4."""

import random
import re
import unittest

from knockpurse.callers import first_of
from knockpurse.desk import Desk
from knockpurse.errors import NoBeat, NoLine, NoNumber, TooGreat
from knockpurse.stories import healed_at, story_of
from knockpurse.texts import caller_read, caller_shown, story_read, story_shown
from tests.test_callers import CALLER, EACH, EMPTY, GREATEST, LEAST, RICH, SHY, WIDE, beat_by_beat, random_caller
from tests.things import outcome, refusal, whatever

QUESTIONS = ("beat", "asked", "begun", "coins", "gate", "waiting", "story", "healed", "shown")
THIRTY = "1" + "0" * 29
POOR = ((EACH, 3, 9), EMPTY, WIDE)
PATIENT = ((EACH, 200, 1000), RICH, WIDE)
NO_NUMBERS = ("", "00", "01", "-1", "+1", "1.0", "x", "none", "1\n", "\t1", "1-2", THIRTY + "0", "0" * 31)


def told(desk, *rows):
    """The answers to rows."""
    return [desk.say(row) for row in rows]


def made(caller, *rows):
    """A desk that was told rows."""
    desk = Desk(caller)
    told(desk, *rows)
    return desk


def all_answers(desk):
    return told(desk, *QUESTIONS)


def comb(caller, first):
    """A desk whose story has two hundred stretches, of two beats each, from first on."""
    return made(caller, *[f"silent {first + 4 * at} {first + 4 * at + 2}" for at in range(200)])


class Refused(Exception):
    pass


class DeskByWords:
    """A desk that keeps nothing but the deeds that stand, and reckons all of them anew for each row."""

    def __init__(self, caller):
        self.caller = caller
        self.deeds = []

    def reckoned(self):
        """(beat, how many begin at each beat gone and the next, the set of silent beats)."""
        begins, silent = [0], set()
        for word, *numbers in self.deeds:
            if word == "ask":
                begins[-1] += numbers[0]
            elif word == "step":
                begins.append(0)
            elif word == "go":
                begins += [0] * numbers[0]
            else:
                beats = range(numbers[0], numbers[1])
                silent = silent.union(beats) if word == "silent" else silent.difference(beats)
        return len(begins) - 1, begins, silent

    def standing_and_events(self):
        beat, begins, silent = self.reckoned()
        steps = beat_by_beat(self.caller, begins[:beat], lambda beat: beat in silent)[:beat]
        standing = steps[-1][0] if steps else first_of(self.caller)
        return standing, [events for _, events in steps]

    def say(self, row):
        match = re.match(r"(silent|sound) (0|[1-9][0-9]{0,29}) (0|[1-9][0-9]{0,29})\Z|(ask|go) (0|[1-9][0-9]{0,29})\Z|(step|back)\Z", row)
        if match is None:
            return self.answer(row)
        word, *numbers = [int(group) if group.isdigit() else group for group in match.groups() if group is not None]
        beat, begins, silent = self.reckoned()
        if word == "back":
            if not self.deeds:
                raise Refused("NoLine", {})
            self.deeds.pop()
            return "ok"
        if word == "ask" and not 1 <= numbers[0] <= 20 - begins[-1] or word == "go" and not 1 <= numbers[0] <= 200:
            raise Refused("NoNumber", {})
        if word in ("silent", "sound"):
            self.refuse_stretch(word, numbers, beat, silent)
        self.deeds.append([word] + numbers)
        if word == "step":
            events = self.standing_and_events()[1][-1]
            return " ".join(":".join(str(part) for part in event if part is not None) for event in events) or "none"
        if word == "go":
            words = [each for events in self.standing_and_events()[1][beat:] for _, each, _ in events]
            return " ".join(str(words.count(each)) for each in ("served", "silent", "held"))
        return "ok"

    def refuse_stretch(self, word, numbers, beat, silent):
        if not beat <= numbers[0] < numbers[1] <= 1000000:
            raise Refused("NoBeat", {})
        beats = range(numbers[0], numbers[1])
        then = silent.union(beats) if word == "silent" else silent.difference(beats)
        many = sum(1 for each in then if each - 1 not in then)
        if many > 200:
            raise Refused("TooGreat", {"many": many, "most": 200})

    def answer(self, row):
        (beat, waiting, coins, gate, begun), _ = self.standing_and_events()
        _, begins, silent = self.reckoned()
        answers = {
            "beat": str(beat), "asked": str(begins[-1]), "begun": str(begun), "coins": str(coins), "gate": " ".join(str(part) for part in gate),
            "waiting": " ".join(f"{due}:{number}:{tries}" for due, number, _, tries in waiting) or "none",
            "story": story_shown(story_of(sorted(silent))), "healed": str(max(silent, default=-1) + 1),
            "shown": caller_shown(self.caller).replace("\n", " ; "),
        }
        if row not in answers:
            raise Refused("NoLine", {})
        return answers[row]


def outcome_by_words(desk, row):
    try:
        return "told", repr(desk.say(row))
    except Refused as refused:
        return ("refused",) + refused.args


class Begins(unittest.TestCase):
    def test_a_new_desk(self):
        self.assertEqual(all_answers(Desk(CALLER)), [
            "0", "0", "0", "4", "open 0", "none", "story", "0",
            "gaps 3 2 1 50 ; plan 4 100 ; purse 2 3 7 4 ; gate 2 4 2 10 2",
        ])
        self.assertEqual(told(Desk(GREATEST), "coins", "shown"), [
            "10000", "gaps 1000 10 1000 1000 ; plan 200 1000 ; purse 1000 1000 10000 10000 ; gate 20 1000 10 1000 10",
        ])
        self.assertEqual(told(Desk(LEAST), "coins", "gate"), ["0", "open 0"])

    def test_answers_are_texts(self):
        desk = made(CALLER, "silent 0 9", "ask 3", "step")
        for row in QUESTIONS + ("silent 4 5", "sound 4 5", "ask 1", "step", "go 2", "back"):
            self.assertIs(type(desk.say(row)), str)


class SilentAndSound(unittest.TestCase):
    def test_named_ones(self):
        desk = Desk(CALLER)
        for row, story, healed in (
            ("silent 0 1", "story 0-1", "1"), ("silent 3 5", "story 0-1 3-5", "5"), ("silent 1 3", "story 0-5", "5"), ("sound 2 3", "story 0-2 3-5", "5"),
            ("sound 0 2", "story 3-5", "5"), ("silent 4 9", "story 3-9", "9"), ("sound 8 20", "story 3-8", "8"), ("sound 20 30", "story 3-8", "8"),
            ("silent 999999 1000000", "story 3-8 999999-1000000", "1000000"), ("silent 0 1000000", "story 0-1000000", "1000000"),
            ("sound 5 6", "story 0-5 6-1000000", "1000000"), ("sound 0 1000000", "story", "0"), ("sound 0 1000000", "story", "0"),
            ("silent 10 12", "story 10-12", "12"), ("silent 8 10", "story 8-12", "12"), ("silent 12 13", "story 8-13", "13"), ("silent 9 10", "story 8-13", "13"),
            ("sound 8 9", "story 9-13", "13"), ("sound 12 13", "story 9-12", "12"), ("sound 0 9", "story 9-12", "12"), ("sound 12 1000000", "story 9-12", "12"),
        ):
            self.assertEqual(told(desk, row, "story", "healed"), ["ok", story, healed])

    def test_the_beat_that_comes_next_and_one_ahead(self):
        for word in ("silent", "sound"):
            for beat in (1, 7):
                desk = made(PATIENT, "silent 0 5", f"go {beat}", "silent 3 20" if beat < 3 else "silent 9 20")
                wanted = all_answers(desk)
                for first in (0, beat - 1):
                    self.assertEqual(refusal(self, NoBeat, desk.say, f"{word} {first} {beat + 1}"), {})
                    self.assertEqual(refusal(self, NoBeat, desk.say, f"{word} {first} {beat}"), {})
                self.assertEqual(all_answers(desk), wanted)
                self.assertEqual(desk.say(f"{word} {beat} {beat + 1}"), "ok")

    def test_what_is_gone_stays_as_it_was(self):
        desk = made(PATIENT, "silent 0 9", "go 4", "sound 4 9")
        self.assertEqual(told(desk, "story", "healed"), ["story 0-4", "4"])
        desk = made(PATIENT, "silent 2 9", "go 4", "silent 4 12")
        self.assertEqual(desk.say("story"), "story 2-12")

    def test_the_last_beat_and_one_beyond(self):
        for word in ("silent", "sound"):
            desk = made(CALLER, "silent 0 1000000", "sound 5 6")
            self.assertEqual(refusal(self, NoBeat, desk.say, f"{word} 9 1000001"), {})
            self.assertEqual(refusal(self, NoBeat, desk.say, f"{word} 1000000 1000001"), {})
            self.assertEqual(refusal(self, NoBeat, desk.say, f"{word} 1000000 1000000"), {})
            self.assertEqual(refusal(self, NoBeat, desk.say, f"{word} 0 {THIRTY}"), {})
            self.assertEqual(refusal(self, NoBeat, desk.say, f"{word} {THIRTY} {THIRTY}"), {})
            self.assertEqual(refusal(self, NoLine, desk.say, f"{word} 0 {THIRTY}0"), {})
            self.assertEqual(desk.say("story"), "story 0-5 6-1000000")
            self.assertEqual(desk.say(f"{word} 999999 1000000"), "ok")

    def test_no_less_than_the_end(self):
        desk = Desk(CALLER)
        for word in ("silent", "sound"):
            for numbers in ("0 0", "5 5", "6 5", "1 0"):
                self.assertEqual(refusal(self, NoBeat, desk.say, f"{word} {numbers}"), {})
        self.assertEqual(refusal(self, NoLine, desk.say, "back"), {})

    def test_two_hundred_stretches_and_one_more(self):
        desk = comb(CALLER, 10)
        story = desk.say("story")
        self.assertEqual(len(story_read(story)), 200)
        for row in ("silent 900 901", "silent 0 9", "silent 999999 1000000"):
            self.assertEqual(refusal(self, TooGreat, desk.say, row), {"many": 201, "most": 200})
            self.assertEqual(desk.say("story"), story)
        for row in ("silent 12 13", "silent 9 10", "silent 12 14", "silent 10 12", "silent 0 2000", "sound 10 12", "sound 10 11", "sound 0 2000"):
            self.assertEqual(desk.say(row), "ok", row)
            self.assertEqual(told(desk, "back", "story"), ["ok", story])

    def test_sound_within_one_of_two_hundred_stretches(self):
        desk = made(CALLER, *[f"silent {4 * at} {4 * at + 3}" for at in range(200)])
        story = desk.say("story")
        self.assertEqual(refusal(self, TooGreat, desk.say, "sound 401 402"), {"many": 201, "most": 200})
        self.assertEqual(desk.say("story"), story)
        self.assertEqual(desk.say("sound 400 402"), "ok")
        self.assertEqual(desk.say("back"), "ok")
        self.assertEqual(desk.say("sound 401 405"), "ok")

    def test_no_beat_goes_ahead_of_too_many(self):
        desk = comb(CALLER, 10)
        desk.say("step")
        for row in ("silent 0 5", "silent 900 900", "silent 900 1000001"):
            self.assertEqual(refusal(self, NoBeat, desk.say, row), {})
        self.assertEqual(refusal(self, TooGreat, desk.say, "silent 900 901"), {"many": 201, "most": 200})


class Ask(unittest.TestCase):
    def test_twenty_and_twenty_one(self):
        for rows, asked in ((("ask 20",), "20"), (("ask 19", "ask 1"), "20"), (("ask 1", "ask 19"), "20"), (("ask 1",) * 20, "20"), (("ask 3",), "3")):
            desk = made(PATIENT, *rows)
            self.assertEqual(told(desk, "asked", "begun", "beat"), [asked, "0", "0"])
            self.assertEqual(refusal(self, NoNumber, desk.say, f"ask {21 - int(asked)}"), {})
            self.assertEqual(refusal(self, NoNumber, desk.say, "ask 0"), {})
            self.assertEqual(refusal(self, NoNumber, desk.say, f"ask {THIRTY}"), {})
            self.assertEqual(refusal(self, NoLine, desk.say, f"ask {THIRTY}0"), {})
            self.assertEqual(desk.say("asked"), asked)
            self.assertEqual(told(desk, "step", "asked", "begun", "ask 20", "asked")[1:], ["0", asked, "ok", "20"])
        self.assertEqual(refusal(self, NoNumber, Desk(CALLER).say, "ask 21"), {})
        self.assertEqual(refusal(self, NoNumber, Desk(CALLER).say, "ask 0"), {})

    def test_they_begin_at_the_next_beat_alone(self):
        self.assertEqual(told(made(CALLER, "ask 2"), "step", "step"), ["0:served 1:served", "none"])
        self.assertEqual(told(made(CALLER, "ask 2", "go 3"), "begun", "asked"), ["2", "0"])


class StepAndGo(unittest.TestCase):
    def test_named_events(self):
        desk = made(CALLER, "silent 0 3", "ask 3")
        self.assertEqual(told(desk, "step", "waiting", "coins", "gate", "begun"), [
            "0:silent:3 1:silent:3 2:held:3", "3:0:1 3:1:1 3:2:1", "1", "shut 4 4", "3",
        ])
        self.assertEqual(told(desk, "step", "step", "ask 1", "step", "beat", "gate", "coins", "waiting"), [
            "none", "none", "ok", "0:held:purse 1:held:purse 2:held:purse 3:held:6", "4", "shut 4 4", "0", "6:3:1",
        ])
        self.assertEqual(told(desk, "go 2", "step", "gate", "waiting", "step", "gate"), ["0 0 0", "3:served", "trying 1 4", "none", "none", "trying 1 4"])

    def test_each_what(self):
        for plan, purse, wanted in (((EACH, 1, 9), RICH, "knocks"), ((EACH, 2, 0), RICH, "time"), ((EACH, 2, 9), EMPTY, "purse"), ((EACH, 2, 9), RICH, "1")):
            self.assertEqual(made((plan, purse, WIDE), "silent 0 1", "ask 1").say("step"), f"0:silent:{wanted}")
            self.assertEqual(made((plan, purse, (1, 9, 1, 9, 1)), "silent 0 1", "ask 2").say("step"), f"0:silent:{wanted} 1:held:{wanted}")
        self.assertEqual(made(POOR, "ask 2").say("step"), "0:served 1:served")

    def test_go_counts_served_silent_held(self):
        self.assertEqual(made(CALLER, "silent 0 3", "ask 3").say("go 1"), "0 2 1")
        self.assertEqual(made(CALLER, "silent 0 3", "ask 3").say("go 4"), "0 2 4")
        self.assertEqual(made(CALLER, "ask 3").say("go 1"), "3 0 0")
        self.assertEqual(made(CALLER).say("go 200"), "0 0 0")
        self.assertEqual(made(PATIENT, "silent 0 150", "ask 1").say("go 200"), "1 150 0")

    def test_how_many_beats_may_be_gone(self):
        desk = made(CALLER, "ask 1")
        for many in ("0", "201", "1000000", THIRTY):
            self.assertEqual(refusal(self, NoNumber, desk.say, f"go {many}"), {})
            self.assertEqual(told(desk, "beat", "asked"), ["0", "1"])
        self.assertEqual(refusal(self, NoLine, desk.say, f"go {THIRTY}0"), {})
        self.assertEqual(told(desk, "go 1", "beat", "go 200", "beat", "back", "beat"), ["1 0 0", "1", "0 0 0", "201", "ok", "1"])

    def test_go_is_so_many_steps(self):
        mixer = random.Random(102)
        for _ in range(150):
            caller, span = random_caller(mixer), mixer.randrange(1, 40)
            rows = [f"silent {first} {first + mixer.randrange(1, 9)}" for first in (mixer.randrange(30), mixer.randrange(30))]
            rows += [f"ask {mixer.randrange(1, 21)}"]
            one, other = made(caller, *rows), made(caller, *rows)
            events = [event for _ in range(span) for event in one.say("step").split(" ")]
            words = [event.split(":")[1] for event in events if event != "none"]
            self.assertEqual(other.say(f"go {span}"), " ".join(str(words.count(word)) for word in ("served", "silent", "held")))
            self.assertEqual(all_answers(one), all_answers(other))

    def test_the_gate_s_standings(self):
        desk = made(((EACH, 1, 0), RICH, (2, 3, 2, 9, 2)), "silent 0 4", "ask 1", "step")
        self.assertEqual(desk.say("gate"), "open 1")
        self.assertEqual(told(desk, "ask 1", "step", "gate"), ["ok", "1:silent:knocks", "shut 4 3"])
        self.assertEqual(told(desk, "go 2", "silent 4 5", "ask 1", "step", "gate"), ["0 0 0", "ok", "ok", "2:silent:knocks", "shut 10 6"])
        self.assertEqual(told(desk, "go 5", "ask 1", "step", "gate", "ask 1", "step", "gate"), [
            "0 0 0", "ok", "3:served", "trying 1 6", "ok", "4:served", "open 0",
        ])


class Back(unittest.TestCase):
    def test_nothing_stands(self):
        desk = Desk(CALLER)
        self.assertEqual(refusal(self, NoLine, desk.say, "back"), {})
        desk.say("step")
        self.assertEqual(desk.say("back"), "ok")
        self.assertEqual(refusal(self, NoLine, desk.say, "back"), {})
        self.assertEqual(all_answers(desk), all_answers(Desk(CALLER)))

    def test_questions_and_refused_rows_are_no_deeds(self):
        desk = made(CALLER, "ask 2", *QUESTIONS)
        for row in ("ask 0", "ask 19", "go 0", "silent 3 3", "wrong", None, "back 1"):
            self.assertEqual(outcome(desk.say, [row])[0], "refused")
        self.assertEqual(told(desk, "back", "asked"), ["ok", "0"])
        self.assertEqual(refusal(self, NoLine, desk.say, "back"), {})

    def test_each_deed_is_undone(self):
        for caller in (CALLER, PATIENT, (CALLER[0], RICH, SHY)):
            ahead = ["silent 2 9", "ask 3", "go 3", "ask 2"]
            for row in ("silent 5 12", "silent 5 6", "sound 4 6", "sound 50 60", "ask 1", "step", "go 1", "go 200"):
                desk = made(caller, *ahead)
                wanted = all_answers(desk)
                self.assertEqual(told(desk, row, "back")[1], "ok")
                self.assertEqual(all_answers(desk), wanted)
                again = made(caller, *ahead)
                self.assertEqual(told(desk, row, "step", "go 9"), told(again, row, "step", "go 9"))

    def test_back_undoes_what_stands_and_not_itself(self):
        rows = ["silent 0 4", "ask 2", "step", "ask 1", "go 3", "sound 9 12", "silent 6 7", "step"]
        desk = made(CALLER, *rows)
        for many in range(len(rows) - 1, -1, -1):
            self.assertEqual(desk.say("back"), "ok")
            self.assertEqual(all_answers(desk), all_answers(made(CALLER, *rows[:many])))
        self.assertEqual(refusal(self, NoLine, desk.say, "back"), {})

    def test_another_deed_behind_back(self):
        desk = made(CALLER, "ask 1", "ask 2", "back", "ask 4", "back", "back", "ask 8")
        self.assertEqual(told(desk, "asked", "back", "asked"), ["8", "ok", "0"])


class Lines(unittest.TestCase):
    def test_what_is_no_row(self):
        desk = made(CALLER, "silent 0 5", "ask 2", "step", "ask 1")
        wanted = all_answers(desk)
        rows = list(QUESTIONS) + ["silent 9 12", "sound 9 12", "ask 1", "step", "go 1", "back"]
        wrong = ["", " ", "\n", "  ", "\t", "no", "Beat", "BEAT", "beats", "bea", "0", "5 5", "silent", "sound", "ask", "go", "steps", "none", "ok", "quit", "told"]
        for row in rows:
            wrong += [
                " " + row, row + " ", row + "\n", "\n" + row, row + "\t", row + " 1", row + " x", row + "  ", row.upper(), row + row, row + "\n" + row,
                row + " " + row, row + ";", row + " none",
            ]
            if " " in row:
                words = row.split(" ")
                wrong += [row.replace(" ", "  ", 1), row.replace(" ", "  "), row.replace(" ", "\t"), row.replace(" ", "\n"), " ".join(words[:-1]), words[0]]
                for place in range(1, len(words)):
                    wrong += [" ".join(words[:place] + [each] + words[place + 1:]) for each in NO_NUMBERS]
        for row in wrong:
            self.assertEqual(refusal(self, NoLine, desk.say, row), {}, row)
        self.assertEqual(all_answers(desk), wanted)
        self.assertEqual(told(desk, "back", "asked", "back", "beat"), ["ok", "0", "ok", "0"])

    def test_what_is_no_text(self):
        desk = made(CALLER, "silent 0 5", "ask 2")
        wanted = all_answers(desk)
        for thing in whatever() + [["beat"], ("step",), {"back": 1}, ["silent", 3, 4], ("ask", "1"), [["go 3"]]]:
            self.assertEqual(refusal(self, NoLine, desk.say, thing), {}, thing)
        self.assertEqual(all_answers(desk), wanted)

    def test_no_line_goes_ahead_of_all_else(self):
        desk = made(CALLER, "go 5")
        for row in ("silent 0 03", "silent 00 0", "sound 9 9 9", "silent 0", "sound 0 1000001 1", "ask 00", "ask 0 0", "go 0 0", "go 00", "go 0201", "ask 021"):
            self.assertEqual(refusal(self, NoLine, desk.say, row), {}, row)

    def test_zero_is_a_number(self):
        desk = Desk(CALLER)
        self.assertEqual(refusal(self, NoNumber, desk.say, "ask 0"), {})
        self.assertEqual(refusal(self, NoNumber, desk.say, "go 0"), {})
        self.assertEqual(refusal(self, NoBeat, desk.say, "silent 0 0"), {})
        self.assertEqual(desk.say("silent 0 1"), "ok")


class Together(unittest.TestCase):
    def random_row(self, mixer, beat):
        first = max(0, beat + mixer.randrange(-1, 12))
        kind = mixer.randrange(12)
        if kind < 3:
            return f"{mixer.choice(('silent', 'silent', 'sound'))} {first} {first + mixer.randrange(9)}"
        if kind < 5:
            return f"ask {mixer.choice((0, 1, 1, 2, 3, 8, 20, 21))}"
        if kind < 7:
            return "step"
        if kind < 8:
            return f"go {mixer.choice((0, 1, 2, 5, 9, 30, 201))}"
        if kind < 10:
            return "back"
        return mixer.choice(QUESTIONS + ("wrong", "", "go", "ask x", "silent 1", "step 1", "sound 01 3"))

    def test_row_by_row(self):
        mixer = random.Random(103)
        seen = set()
        for _ in range(150):
            caller = random_caller(mixer)
            desk, slow = Desk(caller), DeskByWords(caller)
            for _ in range(30):
                row = self.random_row(mixer, int(desk.say("beat")))
                answer = outcome(desk.say, [row])
                self.assertEqual(answer, outcome_by_words(slow, row), (caller, slow.deeds, row))
                seen.add((row.split(" ")[0], answer[0] if answer[0] == "told" else answer[1]))
            self.assertEqual(all_answers(desk), told(slow, *QUESTIONS))
        self.assertTrue({
            ("silent", "told"), ("silent", "NoBeat"), ("sound", "told"), ("sound", "NoBeat"), ("ask", "told"), ("ask", "NoNumber"), ("step", "told"),
            ("go", "told"), ("go", "NoNumber"), ("back", "told"), ("back", "NoLine"), ("wrong", "NoLine"),
        } <= seen, seen)

    def test_too_many_stretches_row_by_row(self):
        mixer = random.Random(104)
        desk, slow = made(CALLER, *[f"silent {9 * at} {9 * at + 4}" for at in range(200)]), DeskByWords(CALLER)
        slow.deeds = [["silent", 9 * at, 9 * at + 4] for at in range(200)]
        seen = set()
        for _ in range(120):
            first = mixer.randrange(1810)
            row = mixer.choice((f"silent {first} {first + mixer.randrange(1, 9)}", f"sound {first} {first + mixer.randrange(1, 9)}", "back"))
            answer = outcome(desk.say, [row])
            self.assertEqual(answer, outcome_by_words(slow, row))
            seen.add((row.split(" ")[0], answer[1]))
        self.assertTrue({("silent", "TooGreat"), ("sound", "TooGreat"), ("silent", "'ok'"), ("sound", "'ok'")} <= seen, seen)
        self.assertEqual(desk.say("story"), slow.say("story"))

    def test_answers_hang_on_the_deeds_that_stand_alone(self):
        mixer = random.Random(105)
        for _ in range(60):
            caller = random_caller(mixer)
            desk, stand = Desk(caller), []
            for _ in range(25):
                row = self.random_row(mixer, int(desk.say("beat")))
                if outcome(desk.say, [row])[0] == "told" and row not in QUESTIONS:
                    if row == "back":
                        stand.pop()
                    else:
                        stand.append(row)
            self.assertEqual(all_answers(desk), all_answers(made(caller, *stand)))

    def test_two_desks_have_nothing_in_common(self):
        rows = ["silent 0 6", "ask 3", "step", "ask 1", "go 3", "back", "step", "sound 3 9", "ask 2", "go 9", "waiting", "gate", "story", "coins"]
        wanted = told(Desk(CALLER), *rows)
        one, other, third = Desk(CALLER), Desk(CALLER), Desk((CALLER[0], RICH, SHY))
        answers, others = [], []
        for row in rows:
            answers.append(one.say(row))
            third.say("silent 500 600")
            third.say("step")
            others.append(other.say(row))
            outcome(third.say, ["ask 2"])
            outcome(third.say, ["wrong"])
        self.assertEqual((answers, others), (wanted, wanted))
        self.assertEqual(all_answers(Desk(CALLER)), all_answers(made(CALLER, "ask 1", "back")))

    def test_the_same_question_has_the_same_answer(self):
        desk = made(CALLER, "silent 0 6", "ask 3", "go 2", "ask 1")
        wanted = all_answers(desk)
        for row in QUESTIONS + ("wrong", "ask 20", "go 0", "silent 0 1"):
            outcome(desk.say, [row])
            self.assertEqual(all_answers(desk), wanted)
            self.assertEqual(all_answers(desk)[::-1], told(desk, *QUESTIONS[::-1]))

    def test_shown_and_story_can_be_read_again(self):
        desk = made(CALLER, "silent 0 6", "silent 9 12", "go 3")
        self.assertEqual(caller_read(desk.say("shown").replace(" ; ", "\n")), CALLER)
        self.assertEqual(healed_at(story_read(desk.say("story"))), int(desk.say("healed")))

    def test_twenty_that_wait_for_long(self):
        # Behind the first beat the gate lets one through at each.
        desk = made(PATIENT, "silent 0 1000000", "ask 20")
        self.assertEqual(told(desk, "go 199", "beat", "coins"), ["0 218 3762", "199", "6020"])
        self.assertEqual(desk.say("waiting"), " ".join(f"199:{number}:199" for number in range(20)))
        self.assertEqual(told(desk, "go 1", "waiting", "gate", "coins"), ["0 1 19", "none", "shut 200 1", "6020"])


if __name__ == "__main__":
    unittest.main()
