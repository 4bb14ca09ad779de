"""CHARTs put together: those on which one leans put in."""

from ringproofs.charts import leaned
from ringproofs.errors import Leans, TooLong
from ringproofs.words import LINES


def _wanted(chart, charts):
    """The list of the pairs (NAME, CHART), in order, on which a CHART leans, and on which these lean, and so on."""
    names = {name: True for name in leaned(chart)}
    found = []
    for name, other in reversed(charts):
        if name in names:
            names.update({more: True for more in leaned(other)})
            found.append((name, other))
    return found[::-1]


def _lengths(steps, lengths):
    """How many lines stand for each step of a CHART, told by the lengths of those on which it leans."""
    return [1 + lengths[step[1]] if step[0] == "lean" else 1 for step in steps]


def _moved(step, numbers, more):
    """The step with its line's new number; one beyond all lines moves by as many as were put in ahead of it."""
    if step[0] != "back":
        return step
    _, line, binding = step
    return ("back", numbers[line] if line < len(numbers) else line + more, binding)


def _put(steps, made):
    """The steps with each lean exchanged, made being the CHARTs, by their names, in which that's done."""
    numbers = []
    behind = 0
    for many in _lengths(steps, {name: len(other) for name, (_, other) in made.items()}):
        numbers.append(behind)
        behind += many
    found = []
    for step in steps:
        if step[0] == "lean":
            saying, inner = made[step[1]]
            found.append(("as", saying, step[2]))
            first = len(found)
            places = list(range(first, first + len(inner)))
            found.extend([_moved(each, places, first) for each in inner])
        else:
            found.append(_moved(step, numbers, behind - len(steps)))
    return tuple(found)


def put_in(chart, charts):
    """The CHART with all on which it leans put in; Leans(NAME), TooLong(200)."""
    there = dict(charts)
    for name in leaned(chart):
        if name not in there:
            raise Leans(name)
    wanted = _wanted(chart, charts)
    # Lengths first: CHARTs that lean twice on one another, and so on, come to be too long to be made.
    lengths = {}
    for name, other in wanted:
        lengths[name] = sum(_lengths(other[1], lengths))
    if sum(_lengths(chart[1], lengths)) > LINES:
        raise TooLong(LINES)
    made = {}
    for name, other in wanted:
        made[name] = (other[0], _put(other[1], made))
    return (chart[0], _put(chart[1], made))
