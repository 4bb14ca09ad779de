"""What is left to be shown behind a step, and how hyps are handed on to it."""

from ringproofs.errors import BadStep
from ringproofs.rules import atom_put, atom_variables
from ringproofs.sayings import MOST_HYPS, comes_of, saying_variables, unlike
from ringproofs.steps import fits
from ringproofs.terms import LAST_VARIABLE, variables


def greatest(links):
    """The rising list of links, of one place and other the greater alone."""
    # Sorted, the greater of two stands behind the other, so that it's the one that the dict keeps.
    found = {(place, other): falls for place, other, falls in sorted(links)}
    return [(place, other, falls) for (place, other), falls in found.items()]


def handed_on(saying, other, binding):
    """The links from a saying to the other one, of which it comes by the BINDING."""
    others = [atom_put(hyp, binding) for hyp in other[0]]
    return [(place, k, 0) for place, hyp in enumerate(saying[0]) for k, atom in enumerate(others) if atom == hyp]


def kept(saying):
    """The links by which each hyp stays at its place."""
    return [(place, place, 0) for place in range(len(saying[0]))]


def _nothing(defs, saying, step):
    return []


def _by(defs, saying, step):
    hyps, goal = saying
    return [] if goal in hyps else None


def _use(defs, saying, step):
    hyps, goal = saying
    rules = defs.rules(goal[0])
    if step[1] >= len(rules):
        return None
    rule = rules[step[1]]
    fitting = fits(rule, goal, saying)
    if fitting is None or fitting[0]:
        return None
    return [((hyps, atom_put(atom, fitting[1])), kept(saying)) for atom in rule[1]]


def _split_by(saying, k, rule, fitting):
    """The premise and its links, of the hyp at place k split by a rule that fits it so."""
    binding, values = fitting
    hyps = [atom_put(hyp, binding) for hyp in saying[0]]
    body = [atom_put(atom, values) for atom in rule[1]]
    found = unlike([*hyps[:k], *body, *hyps[k + 1:]])
    links = [(k, found.index(atom), 1) for atom in body]
    links.extend([(place, found.index(hyp), 0) for place, hyp in enumerate(hyps) if place != k])
    return ((found, atom_put(saying[1], binding)), greatest(links))


def _is_too_high(fitting):
    """Whether a new variable is above 99: what is put for the saying's is made of new ones alone."""
    return any([variable > LAST_VARIABLE for _, term in fitting[0] for variable in variables(term)])


def _split(defs, saying, step):
    hyps = saying[0]
    k = step[1]
    if k >= len(hyps):
        return None
    found = []
    for rule in defs.rules(hyps[k][0]):
        fitting = fits(rule, hyps[k], saying)
        if fitting is not None:
            if _is_too_high(fitting):
                return None
            found.append(_split_by(saying, k, rule, fitting))
    return found


def _cut(defs, saying, step):
    hyps, goal = saying
    atom = step[1]
    known = saying_variables(saying)
    if not all([variable in known for variable in atom_variables(atom)]):
        return None
    return [((hyps, atom), kept(saying)), ((unlike([*hyps, atom]), goal), kept(saying))]


def _as(defs, saying, step):
    _, other, binding = step
    if not comes_of(saying, other, binding):
        return None
    return [(other, handed_on(saying, other, binding))]


# By the words of steps: what is left, None where the step can't be done.
MAKERS = {"by": _by, "use": _use, "split": _split, "cut": _cut, "as": _as, "back": _nothing, "lean": _nothing}


def premises(defs, saying, step):
    """The list of (SAYING, links) that are left to be shown; BadStep(step) where it can't be done."""
    make = MAKERS[step[0]]
    found = make(defs, saying, step)
    if found is None or any([len(hyps) > MOST_HYPS for (hyps, _), _ in found]):
        raise BadStep(step)
    return found
