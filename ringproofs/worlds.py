"""WORLDs: closed TERMs for a saying's variables, and those that bar it."""

from ringproofs.heights import height
from ringproofs.rules import atom_put
from ringproofs.sayings import saying_variables
from ringproofs.terms import is_closed
from ringproofs.trees import trees


def holds(defs, atom):
    """Whether a closed ATOM holds."""
    return height(defs, atom) is not None


def is_world(saying, binding):
    """Whether a BINDING is a WORLD of the saying."""
    if [variable for variable, _ in binding] != saying_variables(saying):
        return False
    return all([is_closed(term) for _, term in binding])


def bars(defs, saying, world):
    """Whether each hyp holds in a WORLD of the saying, and the goal doesn't."""
    hyps, goal = saying
    for hyp in hyps:
        if not holds(defs, atom_put(hyp, world)):
            return False
    return not holds(defs, atom_put(goal, world))


def worlds(saying, most):
    """The list of all WORLDs of a saying with TERMs of trees(most), as the lists of their places rise."""
    small = trees(most)
    found = [()]
    for variable in saying_variables(saying):
        found = [(*world, (variable, tree)) for world in found for tree in small]
    return found


def first_world(defs, saying, most):
    """The first of these WORLDs that bars the saying, None where none does."""
    for world in worlds(saying, most):
        if bars(defs, saying, world):
            return world
    return None
