"""CHARTs: trees of lines, a leaf of which may go back to another line."""

from ringproofs.errors import BadChart, BadStep
from ringproofs.premises import premises
from ringproofs.sayings import comes_of, is_saying
from ringproofs.steps import is_step


def is_chart(thing):
    """Whether a thing is a CHART, by its parts alone."""
    if not isinstance(thing, tuple) or len(thing) != 2 or not isinstance(thing[1], tuple):
        return False
    return is_saying(thing[0]) and all([is_step(step) for step in thing[1]])


def _named(chart, word):
    """The rising list of what stands behind this word in the chart's steps, each once."""
    return sorted({step[1] for step in chart[1] if step[0] == word})


def leaned(chart):
    """The rising list of the NAMEs of a chart's leans."""
    return _named(chart, "lean")


def goals(chart):
    """The rising list of the lines that some back goes to."""
    return _named(chart, "back")


def _is_led(saying, step, known):
    """Whether the saying comes of the one on which it leans."""
    _, name, binding = step
    return name in known and comes_of(saying, known[name], binding)


def _left(defs, saying, step, known):
    """The sayings that are left to be shown behind a step, None where it can't be done."""
    if step[0] == "lean" and not _is_led(saying, step, known):
        return None
    try:
        return [premise for premise, _ in premises(defs, saying, step)]
    except BadStep:
        return None


def _laid(defs, chart, known):
    """The list of (saying, step, list of its premises' lines), wherever lines of back go."""
    saying, steps = chart
    found = []
    # The sayings that are still without a line, the next one last, each with the line that left it.
    todo = [(saying, None)]
    for line, step in enumerate(steps):
        if not todo:
            raise BadChart(line)
        saying, above = todo.pop()
        left = _left(defs, saying, step, known)
        if left is None:
            raise BadChart(line)
        found.append((saying, step, []))
        if above is not None:
            found[above][2].append(line)
        todo.extend([(premise, line) for premise in reversed(left)])
    if todo:
        raise BadChart(len(steps))
    return found


def _goes_back(laid, saying, step):
    """Whether there's the line to which a line of back goes, and its saying comes of that one's."""
    _, line, binding = step
    return line < len(laid) and comes_of(saying, laid[line][0], binding)


def lines(defs, chart, *, known=()):
    """The list of (saying, step, places), places the tuple of its premises' lines; BadChart(line)."""
    laid = _laid(defs, chart, dict(known))
    for line, (saying, step, _) in enumerate(laid):
        if step[0] == "back" and not _goes_back(laid, saying, step):
            raise BadChart(line)
    return [(saying, step, tuple(places)) for saying, step, places in laid]


def is_right(defs, chart, *, known=()):
    """Whether a thing is a CHART that isn't refused."""
    if not is_chart(chart):
        return False
    try:
        lines(defs, chart, known=known)
    except BadChart:
        return False
    return True
