"""A desk: rows of text about a shelf, and what each is answered."""

from ringproofs.deskrows import row_or_none
from ringproofs.errors import BadRow, RingError
from ringproofs.search import search
from ringproofs.shelf import Shelf
from ringproofs.shorter import shorter
from ringproofs.stepped import stepped
from ringproofs.termtexts import binding_text
from ringproofs.together import put_in
from ringproofs.walks import walked
from ringproofs.worlds import first_world, is_world


def _rule(shelf, rule):
    return str(shelf.tell(rule))


def _unrule(shelf, place):
    shelf.untell(place)
    return "done"


def _add(shelf, name, chart):
    shelf.add(name, chart)
    return "done"


def _drop(shelf, name):
    shelf.drop(name)
    return "done"


def _undo(shelf):
    return "done" if shelf.undo() else "nothing"


def _names(shelf):
    return " ".join(shelf.names()) or "-"


def _stands(shelf, name):
    # Asked for the chart first, the shelf refuses what isn't there.
    shelf.chart(name)
    return "yes" if name in shelf.standing() else "no"


def _world(shelf, saying, most):
    world = first_world(shelf.definitions(), saying, most)
    return "none" if world is None else binding_text(world)


def _seek(shelf, saying, most):
    word, found = search(shelf.definitions(), saying, most)
    if word == "world":
        return f"world {binding_text(found)}"
    if word == "chart":
        return f"chart {len(found[1])}"
    return word


def _put_in(shelf, name):
    return put_in(shelf.chart(name), shelf.charts())


def _walk(shelf, name, binding):
    if not is_world(shelf.saying(name), binding):
        return "none"
    trail, _ = walked(shelf.definitions(), _put_in(shelf, name), binding)
    return str(len(trail))


def _short(shelf, name):
    _, steps = shorter(shelf.definitions(), _put_in(shelf, name))
    return str(len(steps))


def _steps(shelf, name):
    places = stepped(shelf.definitions(), _put_in(shelf, name))
    if places is None:
        return "none"
    return " ".join([f"{line}:{place}" for line, place in places]) or "-"


def _bare(shelf, name):
    _, steps = _put_in(shelf, name)
    return str(len(steps))


# By the words of rows: what is done with the shelf, and what stands behind the word.
ACTS = {"rule": _rule, "unrule": _unrule, "add": _add, "drop": _drop, "undo": _undo, "names": _names, "stands": _stands,
        "world": _world, "seek": _seek, "walk": _walk, "short": _short, "steps": _steps, "bare": _bare}


def _answer(shelf, row):
    """What a row is answered."""
    word, *parts = row
    act = ACTS[word]
    try:
        return act(shelf, *parts)
    except RingError as refusal:
        return f"refused {refusal.told_as()}"


def answers(text):
    """The list of what each row of the text is answered; BadRow(k) of the first that isn't so written."""
    rows = text.split("\n") if text else []
    asked = [row_or_none(row) for row in rows]
    for k, row in enumerate(asked):
        if row is None:
            raise BadRow(k)
    shelf = Shelf()
    return [_answer(shelf, row) for row in asked]
