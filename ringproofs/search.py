"""A searcher: a world that bars a saying, or a CHART of fewest lines."""

from ringproofs.errors import BadStep
from ringproofs.leaps import together
from ringproofs.papers import all_rings, never_falls
from ringproofs.premises import handed_on, premises
from ringproofs.rounds import is_let_by
from ringproofs.sayings import bindings
from ringproofs.sayingtexts import saying_text
from ringproofs.words import SIZE
from ringproofs.worlds import first_world


def _moves(defs, saying):
    """The list of (step, premises) of all by, split and use that can be done, in order."""
    hyps, goal = saying
    wanted = [("by",)]
    wanted.extend([("split", k) for k in range(len(hyps))])
    wanted.extend([("use", k) for k in range(len(defs.rules(goal[0])))])
    found = []
    for step in wanted:
        try:
            found.append((step, premises(defs, saying, step)))
        except BadStep:
            continue
    return found


def _in_order(moves, backs):
    """All that may be done at a line, in the searcher's order: by is the first of moves, and backs stand next."""
    first = [move for move in moves if move[0] == ("by",)]
    return [*first, *backs, *moves[len(first):]]


def tries(defs, saying, done):
    """The list of all steps that the searcher may do at a line, in its order."""
    backs = [(("back", line, binding), []) for line, other in done for binding in bindings(saying, other)]
    return [step for step, _ in _in_order(_moves(defs, saying), backs)]


def _way_down(above, at, links):
    """The links of the way from a line above down to this one, and on by these links."""
    for _, _, hop in above[at:][::-1]:
        links = together(hop, links)
    return links


def _goes_round(links):
    """Whether something falls for ever on a way that goes round by these links again and again."""
    return not any([never_falls(key) for key in all_rings([(0, 0, tuple(links))])])


class Searcher:
    """Looks for CHARTs by the same Definitions: what can be done at a saying is found but once."""

    def __init__(self, defs):
        self._defs = defs
        self._found = {}

    def _moves_at(self, saying):
        text = saying_text(saying)
        if text not in self._found:
            self._found[text] = _moves(self._defs, saying)
        return self._found[text]

    def _backs(self, saying, above):
        """All lines of back that may be let by: round the one that it closes something has to fall for ever."""
        found = []
        for at, (line, other, _) in enumerate(above):
            for binding in bindings(saying, other):
                if _goes_round(_way_down(above, at, handed_on(saying, other, binding))):
                    found.append((("back", line, binding), []))
        return found

    def _next(self, steps, left, many):
        """The list of (steps, left), one step further, in order, that may come to so many lines.

        left are the sayings that are still without a line, the first one the next, each with the lines above it,
        as (line, SAYING, links to the next line on this branch).
        """
        saying, above = left[0]
        line = len(steps)
        found = []
        for step, told in _in_order(self._moves_at(saying), self._backs(saying, above)):
            if line + len(told) + len(left) <= many:
                below = [(premise, [*above, (line, saying, links)]) for premise, links in told]
                found.append(((*steps, step), below + left[1:]))
        return found

    def first(self, saying, many):
        """The first CHART of a saying that is let by, of at most so many lines, or None."""
        todo = [((), [(saying, [])])]
        while todo:
            steps, left = todo.pop()
            if left:
                todo.extend(self._next(steps, left, many)[::-1])
            elif is_let_by(self._defs, (saying, steps)):
                return (saying, steps)
        return None


def search(defs, saying, most, *, size=SIZE):
    """("world", WORLD) that bars a saying, ("chart", CHART) of fewest lines that is let by, or ("none", most)."""
    world = first_world(defs, saying, size)
    if world is not None:
        return ("world", world)
    searcher = Searcher(defs)
    for many in range(1, most + 1):
        chart = searcher.first(saying, many)
        if chart is not None:
            return ("chart", chart)
    return ("none", most)
