"""Points 0.2, 0.3 and 0.4, asked of all functions alike."""

import copy
import inspect
import unittest

from knockpurse import asking, gaps, stories
from tests.things import GREAT, HUGE, outcome, whatever

INTERFACE = {
    gaps: {
        "gaps_good": ["thing"], "gap_at": ["gaps", "k"], "sum_of": ["gaps", "k"], "knocks_within": ["gaps", "n"],
        "beats_of": ["gaps", "many"], "settled_at": ["gaps"], "first_less": ["one", "other"],
        "shaken": ["gaps", "shakes"], "shakes_for": ["gaps", "beats"],
    },
    stories: {
        "story_good": ["thing"], "story_of": ["things"], "silent_at": ["story", "beat"], "healed_at": ["story"],
        "next_sound": ["story", "beat"], "next_silent": ["story", "beat"], "silent_many": ["story", "first", "last"],
        "longest_of": ["story"], "either": ["one", "other"], "both": ["one", "other"], "other_way": ["story", "beat"],
        "later_by": ["story", "by"], "story_at": ["number", "n"], "number_of": ["story"],
        "silent_choices": ["n", "k"], "stretch_choices": ["n", "k"], "stories_with": ["n", "k"],
        "holds": ["story", "thing"], "story_for": ["looks"],
    },
    asking: {
        "plan_good": ["thing"], "knocks_of": ["plan", "begin"], "run_of": ["plan", "story", "begin"],
        "run_good": ["plan", "story", "begin", "thing"], "served_by": ["plan", "begin", "h"], "widest_of": ["plan"],
        "least_silence": ["plan"], "hardest": ["plan", "begin"], "lost_many": ["plan", "n", "m"],
    },
}

SLOW = (3, 2, 1, 50)
PLAN = (SLOW, 4, 25)
STORY = ((0, 14), (20, 21))
COMB = tuple((2 * at + 1, 2 * at + 2) for at in range(200))
LOOKS = ((9, "silent"), (7, "sound"), (5, "silent"))

QUESTIONS = [
    (gaps.gaps_good, SLOW), (gaps.gaps_good, list(SLOW)), (gaps.gap_at, SLOW, 3), (gaps.gap_at, SLOW, GREAT),
    (gaps.sum_of, SLOW, 0), (gaps.sum_of, SLOW, GREAT), (gaps.knocks_within, SLOW, 99), (gaps.knocks_within, SLOW, GREAT),
    (gaps.beats_of, SLOW, 0), (gaps.beats_of, SLOW, 5), (gaps.settled_at, SLOW), (gaps.first_less, SLOW, (2, 3, 1, 60)),
    (gaps.shaken, SLOW, ()), (gaps.shaken, SLOW, (100, 50, 3)), (gaps.shakes_for, SLOW, [0, 2, 7]),
    (gaps.shakes_for, SLOW, [0, 99]), (gaps.shakes_for, SLOW, [0, 0]), (gaps.shakes_for, SLOW, [0, [1]]),
    (stories.story_good, STORY), (stories.story_good, [STORY]), (stories.story_of, [5, 4, 9, 4]),
    (stories.story_of, [5, {"a": []}, None]), (stories.story_of, list(range(0, 402, 2))), (stories.silent_at, STORY, 13),
    (stories.healed_at, STORY), (stories.next_sound, STORY, 3), (stories.next_silent, STORY, 15),
    (stories.next_silent, STORY, 21), (stories.silent_many, STORY, 12, 30), (stories.longest_of, STORY),
    (stories.longest_of, ()), (stories.either, STORY, ((14, 20),)), (stories.either, COMB, ((500, 501),)),
    (stories.both, STORY, ((3, 21),)), (stories.other_way, STORY, 30), (stories.other_way, COMB, 500),
    (stories.later_by, STORY, -3), (stories.later_by, STORY, 1000000), (stories.story_at, 13, 4),
    (stories.story_at, 16, 4), (stories.story_at, [13], 4), (stories.number_of, STORY), (stories.silent_choices, 400, 200),
    (stories.stretch_choices, 400, 100), (stories.stories_with, 4, 2), (stories.stories_with, 24, 3),
    (stories.stories_with, 4, 5), (stories.holds, STORY, LOOKS), (stories.holds, STORY, [LOOKS]),
    (stories.story_for, LOOKS), (stories.story_for, LOOKS + ((9, "sound"),)), (stories.story_for, list(LOOKS)),
    (asking.plan_good, PLAN), (asking.plan_good, {0: [PLAN]}), (asking.knocks_of, PLAN, 10), (asking.run_of, PLAN, STORY, 0),
    (asking.run_good, PLAN, STORY, 0, ((0, 3, 10, 25), "served")), (asking.run_good, PLAN, STORY, 0, [[0], ["x"]]),
    (asking.served_by, PLAN, 10, 14), (asking.served_by, PLAN, 10, 99), (asking.widest_of, PLAN),
    (asking.least_silence, PLAN), (asking.hardest, PLAN, 10), (asking.lost_many, PLAN, 200, 30),
]


def ask(question):
    return outcome(question[0], copy.deepcopy(question[1:]))


class Interface(unittest.TestCase):
    def test_names_and_arguments(self):
        for module, functions in INTERFACE.items():
            for name, arguments in functions.items():
                signature = inspect.signature(getattr(module, name))
                self.assertEqual(list(signature.parameters), arguments, name)
                self.assertTrue(all(one.default is one.empty for one in signature.parameters.values()), name)

    def test_each_function_is_among_the_questions(self):
        asked = {question[0] for question in QUESTIONS}
        for module, functions in INTERFACE.items():
            for name in functions:
                self.assertIn(getattr(module, name), asked)


class Fairness(unittest.TestCase):
    def test_nothing_handed_in_is_changed(self):
        for function, *args in QUESTIONS:
            handed = copy.deepcopy(args)
            outcome(function, handed)
            self.assertEqual(repr(handed), repr(args), function.__name__)

    def test_the_same_question_has_the_same_answer(self):
        answers = [ask(question) for question in QUESTIONS]
        self.assertEqual([ask(question) for question in QUESTIONS[::-1]], answers[::-1])
        for question, answer in zip(QUESTIONS, answers):
            for between in QUESTIONS[::9]:
                ask(between)
                self.assertEqual(ask(question), answer)

    def test_told_lists_are_new_and_the_asker_s_own(self):
        for function, *args in QUESTIONS:
            if outcome(function, args)[0] == "told":
                told, again = function(*args), function(*args)
                if isinstance(told, list):
                    wanted = copy.deepcopy(told)
                    self.assertIsNot(told, again)
                    self.assertTrue(all(told is not thing for thing in args))
                    told.append("spoiled")
                    told[0] = None
                    self.assertEqual(again, wanted)
                    self.assertEqual(function(*args), wanted)

    def test_only_lists_that_the_interface_names_can_be_changed(self):
        lists = {gaps.beats_of, gaps.shaken, stories.stories_with, asking.knocks_of}
        for function, *args in QUESTIONS:
            if outcome(function, args)[0] == "told":
                self.assertIs(isinstance(function(*args), list), function in lists)
                self.assertNotIsInstance(function(*args), (dict, set))

    def test_what_is_done_behind_a_call_changes_nothing(self):
        beats = [0, 2, 7]
        shakes = gaps.shakes_for(SLOW, beats)
        kept = tuple(shakes)
        beats[1] = 1
        self.assertEqual(shakes, kept)
        self.assertIsNone(gaps.shakes_for(SLOW, beats))
        beats[1] = 2
        self.assertEqual(gaps.shakes_for(SLOW, beats), kept)

    def test_a_refusal_changes_nothing(self):
        told = [question for question in QUESTIONS if ask(question)[0] == "told"]
        refused = [question for question in QUESTIONS if ask(question)[0] == "refused"]
        self.assertEqual(len(refused), 11)
        answers = [ask(question) for question in told]
        for question in refused:
            ask(question)
        self.assertEqual([ask(question) for question in told], answers)

    def test_what_was_told_may_be_handed_in_again(self):
        beats = asking.knocks_of(PLAN, 0)
        story = stories.story_of(beats)
        self.assertEqual(story, asking.hardest(PLAN, 0))
        self.assertIs(stories.story_good(story), True)
        self.assertEqual(gaps.shaken(SLOW, gaps.shakes_for(SLOW, beats)), beats)
        self.assertIs(asking.run_good(PLAN, story, 0, asking.run_of(PLAN, story, 0)), True)
        self.assertEqual(stories.either(story, stories.later_by(story, 1)), ((0, 2), (3, 5), (10, 12), (25, 27)))


class WholeNumbers(unittest.TestCase):
    def test_truths_are_no_whole_numbers(self):
        self.assertIs(gaps.gaps_good((True, True, False, True)), False)
        self.assertIs(stories.story_good(((False, True),)), False)
        self.assertIs(stories.holds((), ((False, "sound"),)), False)
        self.assertIs(asking.plan_good(((1, 1, 0, 1), True, False)), False)
        self.assertIs(asking.run_good(((1, 1, 0, 1), 2, 5), ((0, 1),), 0, ((False, True), "served")), False)
        self.assertEqual(ask((stories.story_at, True, 4)), ("refused", "NoNumber", {}))
        self.assertEqual(ask((stories.story_of, [0, True])), ("refused", "NoStory", {"number": 1}))
        self.assertEqual(ask((stories.story_for, ((True, "silent"),))), ("refused", "NoStep", {}))
        self.assertEqual(ask((gaps.shakes_for, SLOW, [False, 3])), ("refused", "NoNumber", {}))

    def test_a_hundred_figures(self):
        for number in (HUGE, -HUGE):
            self.assertIs(gaps.gaps_good((number,) * 4), False)
            self.assertIs(stories.story_good(((0, number),)), False)
            self.assertIs(asking.plan_good((SLOW, number, number)), False)
            self.assertIs(asking.run_good(PLAN, (), 0, ((number,), "served")), False)
            self.assertIs(stories.holds((), ((number, "sound"),)), False)
            self.assertEqual(ask((stories.story_of, [number])), ("refused", "NoStory", {"number": 0}))

    def test_whatever_is_told_of_with_a_truth(self):
        for thing in whatever():
            for answer in (
                gaps.gaps_good(thing), stories.story_good(thing), stories.holds(STORY, thing),
                asking.plan_good(thing), asking.run_good(PLAN, STORY, 0, thing),
            ):
                self.assertIn(repr(answer), ("True", "False"))

    def test_whatever_is_refused_by_its_own_class(self):
        for thing in whatever():
            for question, name in (
                ((gaps.shakes_for, SLOW, thing), "NoNumber"), ((stories.story_of, [thing]), "NoStory"),
                ((stories.story_at, thing, 3), "NoNumber"), ((stories.story_for, thing), "NoStep"),
            ):
                answer = ask(question)
                self.assertIn(answer[0] if answer[0] == "told" else answer[1], ("told", name))


if __name__ == "__main__":
    unittest.main()
