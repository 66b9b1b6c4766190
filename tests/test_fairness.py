"""Points 0.2, 0.3 and 0.4, asked of all functions alike."""

import copy
import inspect
import unittest

from knockpurse import asking, callers, desk, gaps, gates, handed, purses, rows, stories, texts, worst
from tests.things import GREAT, HUGE, outcome, whatever

INTERFACE = {
    gaps: {
        "gaps_good": ["thing"], "gap_at": ["gaps", "k"], "sum_of": ["gaps", "k"], "knocks_within": ["gaps", "n"],
        "beats_of": ["gaps", "many"], "settled_at": ["gaps"], "first_less": ["one", "other"],
        "shaken": ["gaps", "shakes"], "shakes_for": ["gaps", "beats"],
    },
    stories: {
        "story_good": ["thing"], "story_of": ["things"], "silent_at": ["story", "beat"], "healed_at": ["story"],
        "next_sound": ["story", "beat"], "next_silent": ["story", "beat"], "silent_many": ["story", "first", "last"],
        "longest_of": ["story"], "either": ["one", "other"], "both": ["one", "other"], "other_way": ["story", "beat"],
        "later_by": ["story", "by"], "story_at": ["number", "n"], "number_of": ["story"],
        "silent_choices": ["n", "k"], "stretch_choices": ["n", "k"], "stories_with": ["n", "k"],
        "holds": ["story", "thing"], "story_for": ["looks"],
    },
    asking: {
        "plan_good": ["thing"], "knocks_of": ["plan", "begin"], "run_of": ["plan", "story", "begin"],
        "run_good": ["plan", "story", "begin", "thing"], "served_by": ["plan", "begin", "h"], "widest_of": ["plan"],
        "least_silence": ["plan"], "hardest": ["plan", "begin"], "lost_many": ["plan", "n", "m"],
    },
    purses: {
        "purse_good": ["thing"], "coins_behind": ["purse", "row"], "paid_in": ["purse", "row"],
        "unpaid_at": ["purse", "row"], "far_behind": ["purse", "row"], "most_paid": ["purse", "n"],
        "most_between": ["purse", "n"], "best_row": ["purse", "n"], "parts": ["one", "other", "thing"],
        "parted_by": ["one", "other"], "later": ["purse", "coins"],
    },
    gates: {
        "gate_good": ["thing"], "standing_good": ["gate", "thing"], "lets": ["gate", "standing", "beat"],
        "heard": ["gate", "standing", "beat", "answered"], "come_along": ["gate", "story", "beats"],
        "most_let": ["gate", "n"], "row_for": ["gate", "n"], "open_from": ["gate", "h"],
    },
    handed: {
        "road_good": ["thing"], "times_of": ["road", "time"], "turned_at": ["road", "time"], "least_time": ["road"],
        "vain_of": ["road", "time"], "blind_of": ["road", "time"], "ordered": ["road", "order"], "best_order": ["road"],
        "least_vain": ["road", "time"], "done_by_time": ["need", "askings"], "done_blindly": ["need", "askings"],
        "vain_askings": ["need", "askings"], "schedule_good": ["need", "askings", "thing"],
        "most_served": ["need", "askings"], "schedule_for": ["need", "askings"],
    },
    callers: {
        "caller_good": ["thing"], "first_of": ["caller"], "stepped": ["caller", "standing", "sound", "many"],
        "gone": ["caller", "askings", "story"], "gone_good": ["caller", "askings", "story", "thing"],
        "most_tries": ["caller", "many"], "served_from": ["caller", "story"],
    },
    worst: {
        "told_of": ["caller", "beginnings", "story"], "most_knocks": ["caller", "beginnings"],
        "fewest_served": ["caller", "beginnings"], "worst_story": ["caller", "beginnings"],
        "fewest_story": ["caller", "beginnings"], "marks_good": ["caller", "beginnings", "k", "thing"],
        "marks_for": ["caller", "beginnings", "k"], "least_silent": ["caller", "beginnings"],
        "losing_story": ["caller", "beginnings"], "calm_from": ["caller", "beginnings"],
        "more_by": ["one", "other", "beginnings"],
    },
    rows: {
        "row_good": ["thing"], "go_down": ["row", "story", "begin"], "go_good": ["row", "story", "begin", "thing"],
        "most_down": ["row"], "beats_needed": ["row"], "calm_row": ["row", "most"], "once_at": ["row", "places"],
    },
    texts: {
        "caller_shown": ["caller"], "story_shown": ["story"], "caller_read": ["text"], "story_read": ["text"],
    },
}
CLASSES = {
    purses.Purse: (["purse"], {"ask": [], "knock": [], "held": []}),
    gates.Gate: (["gate"], {"come": ["beat"], "hear": ["beat", "answered"], "stands": []}),
    desk.Desk: (["caller"], {"say": ["row"]}),
}

SLOW = (3, 2, 1, 50)
PLAN = (SLOW, 4, 25)
STORY = ((0, 14), (20, 21))
COMB = tuple((2 * at + 1, 2 * at + 2) for at in range(200))
LOOKS = ((9, "silent"), (7, "sound"), (5, "silent"))
PURSE = (2, 3, 7, 4)
GATE = (3, 4, 2, 10, 2)
ROAD = ((3, 2), (4, 0), (1, 5))
ASKED = ((0, 9), (2, 8), (2, 30), (3, 4))
CALLER = (PLAN, PURSE, GATE)
GONE = callers.gone(CALLER, (0, 0, 5), STORY)
STANDING = callers.stepped(CALLER, callers.first_of(CALLER), False, 3)[0]
SHORT = ((0, 2), (3, 4))
BEGINNINGS = (2, 0, 1, 3)
OTHER = ((SLOW, 2, 25), PURSE, (1, 4, 2, 10, 2))
MOST = worst.most_knocks(CALLER, BEGINNINGS)
MARKS = worst.marks_for(CALLER, BEGINNINGS, MOST)
ROW = (PLAN, (SLOW, 2, 9))
DOWN = rows.go_down(ROW, STORY, 3)
TEXT = texts.caller_shown(CALLER)

QUESTIONS = [
    (gaps.gaps_good, SLOW), (gaps.gaps_good, list(SLOW)), (gaps.gap_at, SLOW, 3), (gaps.gap_at, SLOW, GREAT),
    (gaps.sum_of, SLOW, 0), (gaps.sum_of, SLOW, GREAT), (gaps.knocks_within, SLOW, 99), (gaps.knocks_within, SLOW, GREAT),
    (gaps.beats_of, SLOW, 0), (gaps.beats_of, SLOW, 5), (gaps.settled_at, SLOW), (gaps.first_less, SLOW, (2, 3, 1, 60)),
    (gaps.shaken, SLOW, ()), (gaps.shaken, SLOW, (100, 50, 3)), (gaps.shakes_for, SLOW, [0, 2, 7]),
    (gaps.shakes_for, SLOW, [0, 99]), (gaps.shakes_for, SLOW, [0, 0]), (gaps.shakes_for, SLOW, [0, [1]]),
    (stories.story_good, STORY), (stories.story_good, [STORY]), (stories.story_of, [5, 4, 9, 4]),
    (stories.story_of, [5, {"a": []}, None]), (stories.story_of, list(range(0, 402, 2))), (stories.silent_at, STORY, 13),
    (stories.healed_at, STORY), (stories.next_sound, STORY, 3), (stories.next_silent, STORY, 15),
    (stories.next_silent, STORY, 21), (stories.silent_many, STORY, 12, 30), (stories.longest_of, STORY),
    (stories.longest_of, ()), (stories.either, STORY, ((14, 20),)), (stories.either, COMB, ((500, 501),)),
    (stories.both, STORY, ((3, 21),)), (stories.other_way, STORY, 30), (stories.other_way, COMB, 500),
    (stories.later_by, STORY, -3), (stories.later_by, STORY, 1000000), (stories.story_at, 13, 4),
    (stories.story_at, 16, 4), (stories.story_at, [13], 4), (stories.number_of, STORY), (stories.silent_choices, 400, 200),
    (stories.stretch_choices, 400, 100), (stories.stories_with, 4, 2), (stories.stories_with, 24, 3),
    (stories.stories_with, 4, 5), (stories.holds, STORY, LOOKS), (stories.holds, STORY, [LOOKS]),
    (stories.story_for, LOOKS), (stories.story_for, LOOKS + ((9, "sound"),)), (stories.story_for, list(LOOKS)),
    (asking.plan_good, PLAN), (asking.plan_good, {0: [PLAN]}), (asking.knocks_of, PLAN, 10), (asking.run_of, PLAN, STORY, 0),
    (asking.run_good, PLAN, STORY, 0, ((0, 3, 10, 25), "served")), (asking.run_good, PLAN, STORY, 0, [[0], ["x"]]),
    (asking.served_by, PLAN, 10, 14), (asking.served_by, PLAN, 10, 99), (asking.widest_of, PLAN),
    (asking.least_silence, PLAN), (asking.hardest, PLAN, 10), (asking.lost_many, PLAN, 200, 30),
    (purses.purse_good, PURSE), (purses.purse_good, [PURSE]), (purses.coins_behind, PURSE, "aakkk"),
    (purses.coins_behind, PURSE, ["a"]), (purses.paid_in, PURSE, "aakkk"), (purses.paid_in, PURSE, "ab"),
    (purses.unpaid_at, PURSE, "kakkk"), (purses.unpaid_at, PURSE, {"k": []}),
    (purses.far_behind, PURSE, (("a", 10 ** 12), ("k", 1))), (purses.far_behind, PURSE, [["a", 1]]),
    (purses.most_paid, PURSE, 10 ** 12), (purses.most_between, PURSE, 10 ** 12), (purses.best_row, PURSE, 40),
    (purses.best_row, (1000, 1, 10000, 0), 1), (purses.parts, PURSE, (2, 3, 6, 4), "aakk"), (purses.parts, PURSE, PURSE, ["k"]),
    (purses.parted_by, PURSE, (2, 3, 6, 4)), (purses.parted_by, PURSE, PURSE), (purses.parted_by, PURSE, (2, 3, 61, 4)),
    (purses.later, PURSE, 7), (purses.later, PURSE, [7]),
    (gates.gate_good, GATE), (gates.gate_good, [GATE]), (gates.standing_good, GATE, ("shut", 5, 4)),
    (gates.standing_good, GATE, ["shut", {5: 4}]), (gates.lets, GATE, ("shut", 5, 4), 5), (gates.lets, GATE, ("shut", 5, 4), 4),
    (gates.heard, GATE, ("open", 2), 9, False), (gates.heard, GATE, ("trying", 1, 4), 9, True),
    (gates.heard, GATE, ("shut", 5, 4), 9, True), (gates.come_along, GATE, STORY, [0, 0, 3, 3, 8, 14, 30]),
    (gates.most_let, GATE, GREAT), (gates.row_for, GATE, 60), (gates.row_for, (1, 1, 1, 1, 1), 201),
    (gates.open_from, GATE, 7), (handed.road_good, ROAD), (handed.road_good, [ROAD, {}]), (handed.times_of, ROAD, 9),
    (handed.turned_at, ROAD, 9), (handed.turned_at, ROAD, 10), (handed.least_time, ROAD), (handed.vain_of, ROAD, 9),
    (handed.blind_of, ROAD, 7), (handed.ordered, ROAD, (2, 0, 1)), (handed.ordered, ROAD, [2, 0, 1]), (handed.best_order, ROAD),
    (handed.least_vain, ROAD, 9), (handed.least_vain, ROAD * 3, 9), (handed.done_by_time, 5, ASKED),
    (handed.done_blindly, 5, ASKED), (handed.vain_askings, 5, ASKED), (handed.schedule_good, 5, ASKED, ((0, 0), (1, 5))),
    (handed.schedule_good, 5, ASKED, [[0, 0]]), (handed.most_served, 5, ASKED), (handed.schedule_for, 5, ASKED),
    (callers.caller_good, CALLER), (callers.caller_good, [CALLER, []]), (callers.first_of, CALLER),
    (callers.stepped, CALLER, STANDING, False, 2), (callers.stepped, CALLER, STANDING, True, 0),
    (callers.gone, CALLER, (0, 0, 5), STORY), (callers.gone_good, CALLER, (0, 0, 5), STORY, GONE),
    (callers.gone_good, CALLER, (0, 0, 5), STORY, [list(GONE)]), (callers.most_tries, CALLER, 1000000),
    (callers.served_from, CALLER, STORY),
    (worst.told_of, CALLER, BEGINNINGS, SHORT), (worst.most_knocks, CALLER, BEGINNINGS), (worst.fewest_served, CALLER, BEGINNINGS),
    (worst.worst_story, CALLER, BEGINNINGS), (worst.fewest_story, CALLER, BEGINNINGS), (worst.marks_for, CALLER, BEGINNINGS, MOST),
    (worst.marks_for, CALLER, BEGINNINGS, MOST - 1), (worst.marks_good, CALLER, BEGINNINGS, MOST, MARKS),
    (worst.marks_good, CALLER, BEGINNINGS, MOST - 1, MARKS), (worst.marks_good, CALLER, BEGINNINGS, MOST, [[{}]]),
    (worst.least_silent, CALLER, BEGINNINGS), (worst.losing_story, CALLER, BEGINNINGS), (worst.least_silent, CALLER, (0,)),
    (worst.losing_story, CALLER, (0,)), (worst.calm_from, CALLER, BEGINNINGS), (worst.more_by, CALLER, OTHER, BEGINNINGS),
    (worst.more_by, CALLER, CALLER, BEGINNINGS), (rows.row_good, ROW), (rows.row_good, [ROW]), (rows.go_down, ROW, STORY, 3),
    (rows.go_good, ROW, STORY, 3, DOWN), (rows.go_good, ROW, STORY, 3, [list(DOWN)]), (rows.most_down, ROW),
    (rows.beats_needed, ROW), (rows.calm_row, ROW, 3), (rows.once_at, ROW, (1,)), (rows.once_at, ROW, [1]),
    (rows.once_at, ROW, (2,)), (texts.caller_shown, CALLER), (texts.story_shown, STORY), (texts.caller_read, TEXT),
    (texts.caller_read, [TEXT]), (texts.caller_read, TEXT + " 1"), (texts.story_read, "story 0-2 3-4"),
    (texts.story_read, {"story": [TEXT]}), (texts.story_read, "story 0-0"),
]


def ask(question):
    return outcome(question[0], copy.deepcopy(question[1:]))


class Interface(unittest.TestCase):
    def test_names_and_arguments(self):
        for module, functions in INTERFACE.items():
            for name, arguments in functions.items():
                signature = inspect.signature(getattr(module, name))
                self.assertEqual(list(signature.parameters), arguments, name)
                self.assertTrue(all(one.default is one.empty for one in signature.parameters.values()), name)

    def test_classes_and_methods(self):
        for made, (arguments, methods) in CLASSES.items():
            self.assertEqual(list(inspect.signature(made).parameters), arguments)
            for name, taken in methods.items():
                self.assertEqual(list(inspect.signature(getattr(made, name)).parameters), ["self"] + taken, name)

    def test_each_function_is_among_the_questions(self):
        asked = {question[0] for question in QUESTIONS}
        for module, functions in INTERFACE.items():
            for name in functions:
                self.assertIn(getattr(module, name), asked)


class Fairness(unittest.TestCase):
    def test_nothing_handed_in_is_changed(self):
        for function, *args in QUESTIONS:
            handed = copy.deepcopy(args)
            outcome(function, handed)
            self.assertEqual(repr(handed), repr(args), function.__name__)

    def test_the_same_question_has_the_same_answer(self):
        answers = [ask(question) for question in QUESTIONS]
        self.assertEqual([ask(question) for question in QUESTIONS[::-1]], answers[::-1])
        for question, answer in zip(QUESTIONS, answers):
            for between in QUESTIONS[::9]:
                ask(between)
                self.assertEqual(ask(question), answer)

    def test_told_lists_are_new_and_the_asker_s_own(self):
        for function, *args in QUESTIONS:
            if outcome(function, args)[0] == "told":
                told, again = function(*args), function(*args)
                if isinstance(told, list):
                    wanted = copy.deepcopy(told)
                    self.assertIsNot(told, again)
                    self.assertTrue(all(told is not thing for thing in args))
                    told.append("spoiled")
                    told[0] = None
                    self.assertEqual(again, wanted)
                    self.assertEqual(function(*args), wanted)

    def test_only_lists_that_the_interface_names_can_be_changed(self):
        lists = {
            gaps.beats_of, gaps.shaken, stories.stories_with, asking.knocks_of, purses.unpaid_at, gates.row_for,
            handed.times_of, handed.done_by_time, handed.done_blindly, worst.marks_for,
        }
        for function, *args in QUESTIONS:
            if outcome(function, args)[0] == "told":
                if function(*args) is not None:
                    self.assertIs(isinstance(function(*args), list), function in lists)
                self.assertNotIsInstance(function(*args), (dict, set))

    def test_what_is_done_behind_a_call_changes_nothing(self):
        beats = [0, 2, 7]
        shakes = gaps.shakes_for(SLOW, beats)
        kept = tuple(shakes)
        beats[1] = 1
        self.assertEqual(shakes, kept)
        self.assertIsNone(gaps.shakes_for(SLOW, beats))
        beats[1] = 2
        self.assertEqual(gaps.shakes_for(SLOW, beats), kept)

    def test_a_refusal_changes_nothing(self):
        told = [question for question in QUESTIONS if ask(question)[0] == "told"]
        refused = [question for question in QUESTIONS if ask(question)[0] == "refused"]
        self.assertEqual(len(refused), 28)
        answers = [ask(question) for question in told]
        for question in refused:
            ask(question)
        self.assertEqual([ask(question) for question in told], answers)

    def test_what_was_told_may_be_handed_in_again(self):
        beats = asking.knocks_of(PLAN, 0)
        story = stories.story_of(beats)
        self.assertEqual(story, asking.hardest(PLAN, 0))
        self.assertIs(stories.story_good(story), True)
        self.assertEqual(gaps.shaken(SLOW, gaps.shakes_for(SLOW, beats)), beats)
        self.assertIs(asking.run_good(PLAN, story, 0, asking.run_of(PLAN, story, 0)), True)
        self.assertEqual(stories.either(story, stories.later_by(story, 1)), ((0, 2), (3, 5), (10, 12), (25, 27)))

    def test_what_the_later_stages_told_may_be_handed_in_again(self):
        row = purses.best_row(PURSE, 9)
        self.assertEqual(purses.paid_in(PURSE, row), purses.most_paid(PURSE, 9))
        self.assertIs(purses.purse_good(purses.later(PURSE, purses.coins_behind(PURSE, row))), True)
        other = (2, 3, 6, 4)
        self.assertIs(purses.parts(PURSE, other, purses.parted_by(PURSE, other)), True)
        comings = gates.row_for(GATE, 60)
        standing = gates.come_along(GATE, ((0, 99),), comings)[1]
        self.assertIs(gates.standing_good(GATE, standing), True)
        self.assertEqual(gates.lets(GATE, standing, 0), (False, standing))
        road = handed.ordered(ROAD, handed.best_order(ROAD))
        self.assertIs(handed.road_good(road), True)
        self.assertIs(handed.schedule_good(5, ASKED, handed.schedule_for(5, ASKED)), True)
        self.assertIs(callers.gone_good(CALLER, (0, 0, 5), STORY, callers.gone(CALLER, (0, 0, 5), STORY)), True)

    def test_what_the_last_stages_told_may_be_handed_in_again(self):
        story = worst.worst_story(CALLER, BEGINNINGS)
        self.assertIs(stories.story_good(story), True)
        self.assertEqual(worst.told_of(CALLER, BEGINNINGS, story)[1], MOST)
        self.assertIs(worst.marks_good(CALLER, BEGINNINGS, MOST, worst.marks_for(CALLER, BEGINNINGS, MOST)), True)
        standing = worst.told_of(CALLER, BEGINNINGS, story)[0]
        self.assertEqual(callers.stepped(CALLER, standing, True, 0)[0][0], len(BEGINNINGS) + 1)
        row = rows.once_at(ROW, rows.calm_row(ROW, 4))
        self.assertIs(rows.row_good(row), True)
        self.assertIs(rows.go_good(row, story, 0, rows.go_down(row, story, 0)), True)
        caller = texts.caller_read(texts.caller_shown(CALLER))
        self.assertIs(callers.caller_good(caller), True)
        self.assertEqual(desk.Desk(caller).say("shown"), TEXT.replace("\n", " ; "))
        self.assertEqual(stories.either(texts.story_read(texts.story_shown(story)), story), story)

    def test_marks_handed_in_may_be_changed_behind_the_call(self):
        marks = worst.marks_for(CALLER, BEGINNINGS, MOST)
        self.assertIs(worst.marks_good(CALLER, BEGINNINGS, MOST, marks), True)
        marks[1].reverse()
        marks[2].append("spoiled")
        self.assertIs(worst.marks_good(CALLER, BEGINNINGS, MOST, marks), False)
        self.assertIs(worst.marks_good(CALLER, BEGINNINGS, MOST, MARKS), True)
        self.assertEqual(worst.marks_for(CALLER, BEGINNINGS, MOST), MARKS)

    def test_lists_handed_in_may_be_changed_behind_the_call(self):
        beats = [0, 0, 0, 1]
        told = gates.come_along(GATE, STORY, beats)
        kept = copy.deepcopy(told)
        beats.clear()
        self.assertEqual(told, kept)
        self.assertEqual(gates.come_along(GATE, STORY, [0, 0, 0, 1]), kept)

    def test_told_lists_of_one_call_are_not_those_of_another(self):
        one, other = purses.unpaid_at(PURSE, "kkk"), handed.times_of(ROAD, 9)
        one.clear()
        other.clear()
        self.assertEqual((purses.unpaid_at(PURSE, "kkk"), handed.times_of(ROAD, 9)), ([1, 2], [9, 4, 0]))


class Objects(unittest.TestCase):
    def deeds(self, between):
        """What a new Purse, Gate and Desk answer to the same deeds, with something done between each two."""
        purse, gate, kept = purses.Purse(PURSE), gates.Gate(GATE), desk.Desk(CALLER)
        answers = []
        for beat in range(30):
            if beat % 4 == 0:
                purse.ask()
            between()
            if gate.come(beat):
                gate.hear(beat, beat > 20)
                answers.append(purse.knock())
            between()
            answers += [outcome(gate.hear, [beat - 1, True]), outcome(gate.come, [[beat]]), purse.held(), gate.stands()]
            for row in (f"silent {beat} {beat + 2}", "ask 2", "go 2", "step", "back", "back", "step", [beat], "waiting", "gate"):
                answers.append(outcome(kept.say, [row]))
                between()
        return answers

    def test_the_same_deeds_have_the_same_answers(self):
        def ask_all():
            for question in QUESTIONS[::5]:
                ask(question)

        def go_on_with_others():
            other.come(3)
            outcome(other.hear, [3, False])
            spender.ask()
            spender.knock()
            third.say("silent 1000 1001")
            third.say("back")
            outcome(third.say, ["ask 1"])

        other, spender, third = gates.Gate(GATE), purses.Purse(PURSE), desk.Desk(CALLER)
        wanted = self.deeds(lambda: None)
        self.assertEqual(self.deeds(ask_all), wanted)
        self.assertEqual(self.deeds(go_on_with_others), wanted)
        self.assertEqual(self.deeds(lambda: self.deeds(lambda: None)), wanted)


class WholeNumbers(unittest.TestCase):
    def test_truths_are_no_whole_numbers(self):
        self.assertIs(gaps.gaps_good((True, True, False, True)), False)
        self.assertIs(stories.story_good(((False, True),)), False)
        self.assertIs(stories.holds((), ((False, "sound"),)), False)
        self.assertIs(asking.plan_good(((1, 1, 0, 1), True, False)), False)
        self.assertIs(asking.run_good(((1, 1, 0, 1), 2, 5), ((0, 1),), 0, ((False, True), "served")), False)
        self.assertEqual(ask((stories.story_at, True, 4)), ("refused", "NoNumber", {}))
        self.assertEqual(ask((stories.story_of, [0, True])), ("refused", "NoStory", {"number": 1}))
        self.assertEqual(ask((stories.story_for, ((True, "silent"),))), ("refused", "NoStep", {}))
        self.assertEqual(ask((gaps.shakes_for, SLOW, [False, 3])), ("refused", "NoNumber", {}))

    def test_truths_are_no_whole_numbers_in_later_stages(self):
        self.assertIs(purses.purse_good((True, True, True, False)), False)
        self.assertIs(gates.gate_good((True,) * 5), False)
        self.assertIs(gates.standing_good(GATE, ("open", True)), False)
        self.assertIs(handed.road_good(((True, False),)), False)
        self.assertIs(handed.schedule_good(5, ASKED, ((False, False),)), False)
        self.assertIs(callers.caller_good((PLAN, PURSE, (True, 4, 2, 10, 2))), False)
        self.assertIs(callers.gone_good(CALLER, (0,), (), (((False, False, "served", None),), (("served", False),))), False)
        self.assertEqual(ask((purses.far_behind, PURSE, (("a", True),))), ("refused", "NoStep", {}))
        self.assertEqual(ask((purses.later, PURSE, True)), ("refused", "NoNumber", {}))
        self.assertEqual(ask((handed.ordered, ROAD[:2], (False, True))), ("refused", "NoStep", {}))
        self.assertEqual(outcome(gates.Gate(GATE).come, [False]), ("refused", "NoNumber", {}))
        self.assertEqual(outcome(gates.Gate(GATE).hear, [True, True]), ("refused", "NoNumber", {}))

    def test_truths_are_no_whole_numbers_in_the_last_stages(self):
        spoiled = [[(standing, mark == 1 if mark < 2 else mark) for standing, mark in entries] for entries in MARKS]
        self.assertEqual(spoiled, MARKS)
        self.assertIs(worst.marks_good(CALLER, BEGINNINGS, MOST, spoiled), False)
        self.assertIs(rows.row_good(((SLOW, True, True),)), False)
        self.assertIs(rows.go_good(((SLOW, 1, 0),), (), 0, (("served", False), (False,), (True,))), False)
        self.assertEqual(ask((rows.once_at, ROW, (False, True))), ("refused", "NoNumber", {}))
        self.assertEqual(ask((texts.caller_read, True)), ("refused", "NoText", {"row": 0}))
        self.assertEqual(ask((texts.story_read, False)), ("refused", "NoText", {"row": 0}))
        self.assertEqual(outcome(desk.Desk(CALLER).say, [True]), ("refused", "NoLine", {}))

    def test_a_hundred_figures(self):
        for number in (HUGE, -HUGE):
            self.assertIs(gaps.gaps_good((number,) * 4), False)
            self.assertIs(stories.story_good(((0, number),)), False)
            self.assertIs(asking.plan_good((SLOW, number, number)), False)
            self.assertIs(asking.run_good(PLAN, (), 0, ((number,), "served")), False)
            self.assertIs(stories.holds((), ((number, "sound"),)), False)
            self.assertEqual(ask((stories.story_of, [number])), ("refused", "NoStory", {"number": 0}))
            self.assertIs(purses.purse_good((0, 1, number, 0)), False)
            self.assertIs(gates.gate_good((number,) * 5), False)
            self.assertIs(gates.standing_good(GATE, ("shut", number, 4)), False)
            self.assertIs(handed.road_good(((number, number),)), False)
            self.assertIs(handed.schedule_good(5, ASKED, ((0, number),)), False)
            self.assertIs(callers.caller_good((PLAN, PURSE, (number, 4, 2, 10, 2))), False)
            self.assertEqual(ask((purses.later, PURSE, number)), ("refused", "NoNumber", {}))
            self.assertIs(worst.marks_good(CALLER, (0,), 0, [[(number, number)], [(number, number)]]), False)
            self.assertIs(rows.row_good(((SLOW, number, 5),)), False)
            self.assertIs(rows.go_good(ROW, STORY, 3, (("served", number), (number,), (1, 1))), False)
            self.assertEqual(ask((rows.once_at, ROW, (number,))), ("refused", "NoNumber", {}))
            self.assertEqual(ask((texts.story_read, f"story 0-{number}")), ("refused", "NoText", {"row": 1}))
            self.assertEqual(outcome(desk.Desk(CALLER).say, [f"ask {number}"]), ("refused", "NoLine", {}))

    def test_whatever_is_told_of_with_a_truth(self):
        for thing in whatever():
            for answer in (
                gaps.gaps_good(thing), stories.story_good(thing), stories.holds(STORY, thing),
                asking.plan_good(thing), asking.run_good(PLAN, STORY, 0, thing), purses.purse_good(thing),
                purses.parts(PURSE, (2, 3, 6, 4), thing), gates.gate_good(thing), gates.standing_good(GATE, thing),
                handed.road_good(thing), handed.schedule_good(5, ASKED, thing), callers.caller_good(thing),
                callers.gone_good(CALLER, (0, 0, 5), STORY, thing), worst.marks_good(CALLER, BEGINNINGS, MOST, thing),
                rows.row_good(thing), rows.go_good(ROW, STORY, 3, thing),
            ):
                self.assertIn(repr(answer), ("True", "False"))

    def test_whatever_is_refused_by_its_own_class(self):
        for thing in whatever():
            for question, name in (
                ((gaps.shakes_for, SLOW, thing), "NoNumber"), ((stories.story_of, [thing]), "NoStory"),
                ((stories.story_at, thing, 3), "NoNumber"), ((stories.story_for, thing), "NoStep"),
                ((purses.coins_behind, PURSE, thing), "NoStep"), ((purses.paid_in, PURSE, thing), "NoStep"),
                ((purses.unpaid_at, PURSE, thing), "NoStep"), ((purses.far_behind, PURSE, thing), "NoStep"),
                ((purses.later, PURSE, thing), "NoNumber"), ((handed.ordered, ROAD, thing), "NoStep"),
                ((gates.Gate(GATE).come, thing), "NoNumber"), ((gates.Gate(GATE).hear, thing, True), "NoNumber"),
                ((rows.once_at, ROW, thing), "NoNumber"), ((texts.caller_read, thing), "NoText"),
                ((texts.story_read, thing), "NoText"), ((desk.Desk(CALLER).say, thing), "NoLine"),
            ):
                answer = ask(question)
                self.assertIn(answer[0] if answer[0] == "told" else answer[1], ("told", name))


if __name__ == "__main__":
    unittest.main()
