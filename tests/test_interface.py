"""What holds for the whole program: the names of the interface, and that no answer depends on what went before."""

import copy
import importlib
import inspect
import random
import unittest

from tests.helpers import ratio, seize
from tests.stages import NONE, SHOWS, STOP, asked, faults_of, sampled
from traproom.cases import cases, moment_of
from traproom.judges import accepts
from traproom.ratios import Ratio
from traproom.regions import vertices
from traproom.runs import Run
from traproom.shows import is_kept, is_moment, place
from traproom.verdicts import evidence_of, is_sound, least_value, verdict

FUNCTIONS = {
    "ratios": ["quotient(a, b)", "is_less(a, b)", "ratio_text(a)"],
    "regions": ["is_inside(region, point)", "solve(rows, constants)", "vertices(region, n)", "is_empty(region, n)"],
    "quadratics": ["value(quadratic, point)", "least(quadratic, region, n)", "evidence(quadratic, region, n)",
                   "holds(quadratic, region, n, v, faces)"],
    "moves": ["check_move(value)", "pieces(move)", "length(move)", "way(move)", "position(move, time)",
              "speed(move, time)", "stopped(move, brake, at, time)", "greatest_speed(move)"],
    "sheets": ["check_sheet(value)", "is_timing(sheet, times)", "bounds(sheet)", "closed(table)",
               "with_bound(table, i, j, c)", "some_times(table)"],
    "shows": ["check_show(value)", "check_fault(show, value)", "place(show, fault, moment, machine)",
              "is_kept(show, rule, fault, moment)", "is_moment(show, fault, moment)"],
    "cases": ["cases(show, rule, fault)", "moment_of(show, rule, fault, index, point)"],
    "verdicts": ["verdict(show, rule, fault)", "least_value(show, rule, fault)", "is_sound(show, faults)",
                 "evidence_of(show, rule, fault)"],
    "judges": ["accepts(show, rule, fault, value)"],
}
METHODS = ["can_call(self, cue, time)", "call(self, cue, time)", "called(self)", "late(self, time)",
           "where(self, machine, time)", "left(self)", "copy(self)"]


def told(function):
    return function.__name__ + str(inspect.signature(function))


def lists_in(value):
    """The lists and dicts in a value, by their identity."""
    found = {id(value)} if isinstance(value, (list, dict)) else set()
    for part in value if isinstance(value, (list, tuple)) else value.values() if isinstance(value, dict) else ():
        found |= lists_in(part)
    return found


def answers(show, rule, fault):
    """What all questions about a rule with a fault are answered."""
    found = [cases(show, rule, fault), verdict(show, rule, fault), evidence_of(show, rule, fault),
             is_sound(show, [fault])]
    found.append(accepts(show, rule, fault, found[2]))
    for index, (n, region, _) in enumerate(found[0][:4]):
        found.append(moment_of(show, rule, fault, index, vertices(region, n)[0]))
    if show[2][rule][0] == "weigh":
        found.append(least_value(show, rule, fault))
    return found


class InterfaceTest(unittest.TestCase):
    def test_functions(self):
        for name, expected in FUNCTIONS.items():
            module = importlib.import_module("traproom." + name)
            for text in expected:
                function = getattr(module, text[:text.index("(")])
                self.assertTrue(inspect.isfunction(function))
                self.assertEqual([told(function), function.__module__], [text, module.__name__])

    def test_classes(self):
        self.assertEqual(str(inspect.signature(Ratio)), "(n, d=1)")
        self.assertEqual(str(inspect.signature(Run)), "(show)")
        for text in METHODS:
            method = vars(Run)[text[:text.index("(")]]
            self.assertTrue(inspect.isfunction(method))
            self.assertEqual(told(method), text)
        for one in (Ratio, Run):
            self.assertEqual(one.__bases__, (object,))

    def test_the_fields_of_a_ratio(self):
        self.assertEqual(vars(Ratio(6, -4)), {"top": -3, "bottom": 2})


class NoAnswerDependsOnEarlierCallsTest(unittest.TestCase):
    def test_again_and_in_another_order(self):
        source = random.Random(91)
        shows = [*SHOWS.values(), *sampled(source, 4)]
        questions = [(show, rule, fault) for show in shows for rule, fault in asked(show, source)]
        kept = copy.deepcopy(questions)
        first = [answers(*question) for question in questions]
        for k in source.sample(range(len(questions)), len(questions)):
            self.assertEqual(answers(*questions[k]), first[k])
        self.assertEqual(questions, kept)

    def test_results_share_nothing(self):
        for name in ("by sisters", "by a cue and the one that follows it"):
            show = SHOWS[name]
            for rule, fault in asked(show):
                first, second = answers(show, rule, fault), answers(show, rule, fault)
                self.assertEqual(lists_in(first) & lists_in(second), set())
                parts = [lists_in(part) for part in first]
                self.assertEqual(len(set().union(*parts)), sum(map(len, parts)))

    def test_arguments_stay_as_they_are(self):
        for show in SHOWS.values():
            faults = faults_of(show)
            kept = copy.deepcopy((show, faults))
            is_sound(show, faults)
            for rule, fault in asked(show):
                found = verdict(show, rule, fault)
                if found is not None:
                    same = copy.deepcopy(found)
                    self.assertIs(is_kept(show, rule, fault, found), False)
                    self.assertIs(is_moment(show, fault, found), True)
                    place(show, fault, found, 0)
                    self.assertEqual(found, same)
            self.assertEqual((show, faults), kept)

    def test_runs_do_not_touch_their_show_or_verdicts(self):
        show = SHOWS["by sisters"]
        kept = copy.deepcopy(show)
        before = [answers(show, rule, fault) for rule in range(4) for fault in (NONE, STOP, seize(0, 1))]
        run = Run(show)
        run.call(0, ratio(1))
        run.call(1, ratio(3))
        verdict(run.left(), 0, STOP)
        after = [answers(show, rule, fault) for rule in range(4) for fault in (NONE, STOP, seize(0, 1))]
        self.assertEqual(before, after)
        self.assertEqual(show, kept)


if __name__ == "__main__":
    unittest.main()
