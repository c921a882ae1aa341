import copy
import random
import unittest

from tests.helpers import fraction, machine, move, seize, sheet, weigh, zone
from tests.stages import (
    BACK, HALF, NONE, SHOWS, STOP, TINY, UP, around, asked, faults_of, raised, sampled, with_rule,
)
from traproom.cases import cases
from traproom.judges import accepts
from traproom.quadratics import evidence
from traproom.ratios import Ratio
from traproom.verdicts import evidence_of, least_value, verdict

OTHERS = [None, True, False, 0, 1, -1, "", "point", "flat", "below", "above", (), [], Ratio(0), Ratio(1), ((), "point"),
          [((), "point")], [[]], [()], ["below"], ("below",), ("below", None), ("below", []), ("above", ()),
          [((), "flat")], [((0,), "point")]]


def changed(value):
    """Evidence with something changed at one place, for each place in it; all of these differ from it."""
    for other in OTHERS:
        yield other
    if isinstance(value, int) and not isinstance(value, bool):
        yield from (value + 1, value - 1, bool(value), str(value), Ratio(value), (value,), [value], -value - 1, 1000)
    if isinstance(value, str):
        yield from (word for word in ("point", "flat", "below", "above", value + " ", value.upper(), "", (value,)))
    if isinstance(value, (list, tuple)):
        make = type(value)
        yield (tuple if make is list else list)(value)
        yield make([*value, None])
        yield make(reversed(value))
        yield make([value])
        for k, part in enumerate(value):
            yield make([*value[:k], *value[k + 1:]])
            yield make([*value[:k + 1], *value[k:]])
            if k > 0:
                yield make([*value[:k - 1], value[k], value[k - 1], *value[k + 1:]])
            for other in changed(part):
                yield make([*value[:k], other, *value[k + 1:]])


def is_same(left, right):
    """Equality that tells True from 1."""
    if type(left) is not type(right):
        return False
    if isinstance(left, (list, tuple)):
        return len(left) == len(right) and all(map(is_same, left, right))
    return left == right


# People are in front of the machine, or behind it when it has gone; two machines that come near.
SMALL = around(
    sheet((-1, 0, 1), (0, 4, 5)), machine(0, 1, (0, UP)), machine(1, 2, (1, move((1, 1), (1, -1)))),
    rules=(weigh(0, -1, 1, 1, -3), zone(0, 0, 4, 1, 1), zone(0, 4, 5, 0, 1), weigh(1, 2, 0, HALF, 2)))


class AcceptsTest(unittest.TestCase):
    def check_changes(self, show, rule, fault):
        good = evidence_of(show, rule, fault)
        self.assertIs(accepts(show, rule, fault, good), True)
        count = 0
        for other in changed(good):
            if not is_same(other, good):
                count += 1
                self.assertIs(accepts(show, rule, fault, other), False, (rule, fault, other))
        self.assertGreater(count, 100)

    def test_evidence_is_accepted(self):
        source = random.Random(71)
        for show in [*SHOWS.values(), SMALL, *sampled(source, 10)]:
            for rule, fault in asked(show, source, 2):
                found = evidence_of(show, rule, fault)
                self.assertIs(accepts(show, rule, fault, found), found is not None)
                if show[2][rule][0] == "weigh":
                    just = with_rule(show, raised(show[2][rule], fraction(least_value(show, rule, fault))))
                    self.assertIs(accepts(just, 0, fault, evidence_of(just, 0, fault)), True)

    def test_changes_at_each_place(self):
        for rule, fault in ((0, NONE), (1, NONE), (2, NONE), (3, NONE), (2, seize(0, 1)), (2, seize(1, 9))):
            self.check_changes(SMALL, rule, fault)

    def test_changes_at_each_place_with_three_variables(self):
        show = around(sheet((-1, 0, 1)), machine(0, 1, (0, move((1, 1), (1, -1)))),
                      machine(0, 2, (0, move((1, 1), (1, -1)))), rules=(weigh(0, 1, 1, 1, 0),))
        found = evidence_of(show, 0, STOP)
        self.assertEqual(max(n for n, _, _ in cases(show, 0, STOP)), 3)
        source = random.Random(72)
        for _ in range(150):
            at = source.randrange(len(found))
            entry = list(found[at])
            k = source.randrange(len(entry))
            indices, word = entry[k]
            other = source.choice((
                [*entry[:k], *entry[k + 1:]], [*entry[:k + 1], *entry[k:]],
                [*entry[:k], (indices, "flat" if word == "point" else "point"), *entry[k + 1:]],
                [*entry[:k], ((*indices, 20), word), *entry[k + 1:]],
                [*entry[:k], (tuple(x + 1 for x in indices) or (0,), word), *entry[k + 1:]],
            ))
            self.assertIs(accepts(show, 0, STOP, [*found[:at], other, *found[at + 1:]]), False)

    def test_a_case_more_or_less(self):
        for rule, fault in asked(SMALL):
            found = evidence_of(SMALL, rule, fault)
            if found is not None:
                for k in range(len(found)):
                    self.assertIs(accepts(SMALL, rule, fault, found[:k] + found[k + 1:]), False)
                    self.assertIs(accepts(SMALL, rule, fault, found[:k + 1] + found[k:]), False)
                self.assertIs(accepts(SMALL, rule, fault, []), False)
                self.assertIs(accepts(SMALL, rule, fault, found + found), False)

    def test_evidence_of_a_rule_that_asks_for_less(self):
        for name in ("by sisters", "by the same cue", "two machines that rest"):
            show = SHOWS[name]
            for fault in faults_of(show):
                just = raised(show[2][0], fraction(least_value(show, 0, fault)))
                more, less = (with_rule(show, raised(just, change)) for change in (TINY, -TINY))
                for asking in (with_rule(show, just), less, with_rule(show, raised(just, -100))):
                    found = evidence_of(asking, 0, fault)
                    self.assertIs(accepts(with_rule(show, just), 0, fault, found), True)
                    self.assertIs(accepts(less, 0, fault, found), True)
                    self.assertIs(accepts(more, 0, fault, found), False)
                    self.assertIs(accepts(with_rule(show, raised(just, 100)), 0, fault, found), False)

    def test_a_show_that_is_not_safe_has_no_evidence(self):
        """The right tuples and words do not help where what they say does not hold."""
        for name, show in SHOWS.items():
            for rule, fault in asked(show):
                if verdict(show, rule, fault) is not None:
                    faces = [evidence(quadratic, region, n) for n, region, quadratic in cases(show, rule, fault)]
                    self.assertIs(accepts(show, rule, fault, faces), False)
                    for word in ("below", "above"):
                        self.assertIs(accepts(show, rule, fault, [(word, entry) for entry in faces]), False)

    def test_below_and_above_changed_about(self):
        cues = sheet((-1, 0, 2), (0, 4, 6), (1, 1, 2))
        show = around(cues, machine(0, HALF, (0, UP)), machine(0, 1), rules=(
            zone(0, 1, 4, 1, 2), zone(0, 4, 9, 1, 2), zone(0, 6, 9, 1, 2), zone(0, -9, 0, 1, 2)))
        for rule, fault, word in ((0, NONE, "above"), (1, NONE, "below"), (2, STOP, "below"), (3, STOP, "above")):
            found = evidence_of(show, rule, fault)
            self.assertEqual({entry[0] for entry in found}, {word})
            turned = "below" if word == "above" else "above"
            self.assertIs(accepts(show, rule, fault, found), True)
            self.assertIs(accepts(show, rule, fault, [(turned, faces) for _, faces in found]), False)
            for k, (_, faces) in enumerate(found):
                self.assertIs(accepts(show, rule, fault, [*found[:k], (turned, faces), *found[k + 1:]]), False)

    def test_evidence_for_a_zone_that_is_just_touched(self):
        # The machine is from 0 to 4.
        show = around(sheet((-1, 0, 2), (0, 9, 9)), machine(0, HALF, (0, UP)), machine(0, 1), rules=(
            zone(0, 4, 9, 0, 1), zone(0, -9, 0, 0, 1)))
        for rule, closer, other in ((0, zone(0, 4 - TINY, 9, 0, 1), zone(0, 5, 9, 0, 1)),
                                    (1, zone(0, -9, TINY, 0, 1), zone(0, -9, -1, 0, 1))):
            found = evidence_of(show, rule, NONE)
            self.assertIs(accepts(show, rule, NONE, found), True)
            self.assertIs(accepts(with_rule(show, closer), 0, NONE, found), False)
            self.assertIs(accepts(with_rule(show, other), 0, NONE, found), True)

    def test_evidence_for_another_fault_or_rule(self):
        show = around(sheet((-1, 0, 1), (0, 1, 5)), machine(0, 1, (0, UP)), machine(9, 1, (1, BACK)),
                      rules=(weigh(0, -1, 1, 1, -9), zone(0, 7, 8, 0, 1)))
        plain, stopped, people = (evidence_of(show, *pair) for pair in ((0, NONE), (0, STOP), (1, NONE)))
        self.assertIs(accepts(show, 0, STOP, plain), False)
        self.assertIs(accepts(show, 0, NONE, stopped), False)
        self.assertIs(accepts(show, 0, NONE, people), False)
        self.assertIs(accepts(show, 1, NONE, plain), False)
        self.assertIs(accepts(show, 1, NONE, [faces for _, faces in people]), False)
        self.assertIs(accepts(show, 0, NONE, [("above", faces) for faces in plain]), False)

    def test_values_of_all_kinds(self):
        deep_list, deep_tuple = [], ()
        for _ in range(100000):
            deep_list, deep_tuple = [deep_list], (deep_tuple,)
        for rule, fault in asked(SMALL):
            count = len(cases(SMALL, rule, fault))
            for other in [*OTHERS, deep_list, deep_tuple]:
                for value in (other, [other] * count, (other,) * count, [("below", other)] * count,
                              [("above", other)] * count, [(other, [])] * count, [[((), other)]] * count,
                              [[(other, "point")]] * count):
                    if other != ((), "point") and other != [((), "point")] and other != []:
                        self.assertIs(accepts(SMALL, rule, fault, value), False)

    def test_machines_that_rest(self):
        # The only case has no variables, and one face.
        show = SHOWS["two machines that rest"]
        self.assertEqual(evidence_of(show, 0, NONE), [[((), "point")]])
        self.assertIs(accepts(show, 0, NONE, [[((), "point")]]), True)
        self.assertEqual(evidence_of(show, 2, NONE), [("below", [((), "point")])])
        for other in ([[((), "flat")]], [[]], [], [("above", [((), "point")])], [((), "point")], [[((0,), "point")]]):
            self.assertIs(accepts(show, 0, NONE, other), False)
            self.assertIs(accepts(show, 2, NONE, other), False)


class NothingIsModifiedTest(unittest.TestCase):
    def test_the_arguments_stay_as_they_are(self):
        kept = copy.deepcopy(SMALL)
        for rule, fault in asked(SMALL):
            found = evidence_of(SMALL, rule, fault)
            same = copy.deepcopy(found)
            for _ in range(2):
                self.assertIs(accepts(SMALL, rule, fault, found), found is not None)
            self.assertEqual(found, same)
        self.assertEqual(SMALL, kept)

    def test_the_function_is_defined_here(self):
        self.assertEqual(accepts.__module__, "traproom.judges")


if __name__ == "__main__":
    unittest.main()
