"""The judge: whether a value is evidence that a show is safe."""

from traproom.cases import cases
from traproom.claims import above, below
from traproom.kinds import is_tuple
from traproom.quadratics import holds
from traproom.ratios import Ratio


def accepts(show, rule, fault, value):
    """Return True if the value, which may be any, is evidence that the show is safe by the rule with the fault."""
    if not isinstance(value, list):
        return False
    found = cases(show, rule, fault)
    if len(value) != len(found):
        return False
    for case, entry in zip(found, value):
        if not _is_evidence(show[2][rule], case, entry):
            return False
    return True


def _is_evidence(told, case, entry):
    """Return True if the value is the entry of evidence for a case of this rule, otherwise False."""
    n, region, quadratic = case
    if told[0] == "weigh":
        return holds(quadratic, region, n, Ratio(0), entry)
    if not is_tuple(entry, 2, 2):
        return False
    _, _, low, high, _, _ = told
    word, faces = entry
    if word == "below":
        return holds(below(quadratic, low), region, n, Ratio(0), faces)
    return word == "above" and holds(above(quadratic, high), region, n, Ratio(0), faces)
