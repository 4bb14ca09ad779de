"""CHARTs cut shorter: what can be shown at once, or is shown twice, or is cut without need."""

from ringproofs.charts import lines
from ringproofs.rounds import has_to_be_let_by, is_let_by

BY = ("by",)


def _end(told, line):
    """The number behind a line and all that are beneath it."""
    while told[line][2]:
        line = told[line][2][-1]
    return line + 1


def _numbered_anew(steps, order, numbers):
    """The steps of these lines, in this order, backs by new numbers; None where one goes to a line that has none."""
    found = []
    for line in order:
        step = steps[line]
        if step[0] == "back":
            _, other, binding = step
            if other not in numbers:
                return None
            step = ("back", numbers[other], binding)
        found.append(step)
    return tuple(found)


def _exchanged(steps, told, line, kept):
    """The steps with a line, and what is beneath, exchanged for the lines kept, of which the first is in its place."""
    order = [*list(range(line)), *kept, *list(range(_end(told, line), len(steps)))]
    numbers = {old: new for new, old in enumerate(order)}
    numbers[line] = line
    return _numbered_anew(steps, order, numbers)


def _changes(chart, told, line):
    """The list of all CHARTs that come of one by a change at a line, in order, let by or not."""
    saying, steps = chart
    (hyps, goal), step, places = told[line]
    found = []
    if step != BY and goal in hyps:
        found.append(_exchanged((*steps[:line], BY, *steps[line + 1:]), told, line, [line]))
    firsts = [below for below in range(line + 1, _end(told, line)) if told[below][0] == told[line][0]][:1]
    if step[0] == "cut":
        firsts.append(places[1])
    found.extend([_exchanged(steps, told, line, list(range(first, _end(told, first)))) for first in firsts])
    return [(saying, changed) for changed in found if changed is not None]


def _shorter_once(defs, chart, known):
    """The CHART that comes of the first change that leaves one that's let by, None where there is none."""
    told = lines(defs, chart, known=known)
    for line in range(len(told)):
        for changed in _changes(chart, told, line):
            if is_let_by(defs, changed, known=known):
                return changed
    return None


def shorter(defs, chart, *, known=()):
    """The CHART cut shorter as far as can be; BadChart(line), NotLetBy(round)."""
    has_to_be_let_by(defs, chart, known)
    found = chart
    while chart is not None:
        found = chart
        chart = _shorter_once(defs, chart, known)
    return found
