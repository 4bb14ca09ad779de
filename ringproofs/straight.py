"""CHARTs laid straight: lines of back go to lines above alone, or to themselves."""

from ringproofs.charts import lines
from ringproofs.definitions import Definitions
from ringproofs.errors import BadStep, TooLong
from ringproofs.premises import premises
from ringproofs.rules import MOST_BODY
from ringproofs.sayings import comes_of, is_saying
from ringproofs.steps import is_step
from ringproofs.terms import is_place
from ringproofs.words import LINES


def _laid(told, line, copies):
    """The step of a line that is laid anew, and the tuple of the lines that are laid behind it.

    By copies each line that has a copy on this branch, itself too, has the number of its last one.
    """
    _, step, places = told[line]
    if step[0] != "back":
        return (step, places)
    _, other, binding = step
    if other in copies:
        return (("back", copies[other], binding), ())
    return (("as", told[other][0], binding), (other,))


def straight(defs, chart, *, known=()):
    """The CHART laid straight; BadChart(line), TooLong(200)."""
    told = lines(defs, chart, known=known)
    steps = []
    # The lines that are still to be laid, the next one last, each with the pairs (line, copy) above it.
    todo = [(0, ())]
    while todo:
        if len(steps) == LINES:
            raise TooLong(LINES)
        line, above = todo.pop()
        # Of several copies of a line the dict keeps the last one.
        branch = (*above, (line, len(steps)))
        step, places = _laid(told, line, dict(branch))
        steps.append(step)
        todo.extend([(place, branch) for place in places[::-1]])
    return (chart[0], tuple(steps))


def _is_row(thing):
    if not isinstance(thing, tuple) or len(thing) != 3 or not isinstance(thing[2], tuple):
        return False
    return is_saying(thing[0]) and is_step(thing[1]) and all([is_place(place) for place in thing[2]])


def _branches(rows):
    """For each line the lines of its branch, from 0 to itself; None where the lines don't stand as lines tells them."""
    found = []
    todo = [(0, ())]
    for line, (_, _, places) in enumerate(rows):
        if not todo:
            return None
        wanted, above = todo.pop()
        if wanted != line:
            return None
        found.append((*above, line))
        todo.extend([(place, found[line]) for place in places[::-1]])
    return None if todo else found


def _may_leave(rows, row):
    """Whether a line's step may leave its premises: of split and use all that can be told without Definitions."""
    (hyps, _), step, places = row
    left = [rows[place][0] for place in places]
    if step[0] == "use":
        return len(left) <= MOST_BODY and all([saying[0] == hyps for saying in left])
    if step[0] == "split":
        return step[1] < len(hyps)
    try:
        return [saying for saying, _ in premises(Definitions(), row[0], step)] == left
    except BadStep:
        return False


def _goes_up(rows, row, branch):
    """Whether a line, if it's one of back, goes back to one of its branch, of which it comes."""
    saying, step, _ = row
    if step[0] != "back":
        return True
    _, line, binding = step
    return line in branch and comes_of(saying, rows[line][0], binding)


def is_straight(chart_lines):
    """Whether a thing is a list that lines tells, in which each back goes to the line itself, or one above it."""
    if not isinstance(chart_lines, list) or not chart_lines or not all([_is_row(row) for row in chart_lines]):
        return False
    branches = _branches(chart_lines)
    if branches is None or not all([_may_leave(chart_lines, row) for row in chart_lines]):
        return False
    return all([_goes_up(chart_lines, row, branch) for row, branch in zip(chart_lines, branches)])
