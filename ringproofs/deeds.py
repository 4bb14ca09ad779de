"""Rows of deeds, done on a shelf one behind the other."""

from ringproofs.errors import BadDeed

# How many parts a deed has, its word one of them.
PARTS = {"tell": 2, "untell": 2, "add": 3, "drop": 2, "undo": 1}


def _is_deed(thing):
    if not isinstance(thing, tuple) or not thing or not isinstance(thing[0], str):
        return False
    return PARTS.get(thing[0]) == len(thing)


def _done(shelf, deed):
    """Does a deed; what it tells."""
    word, *parts = deed
    if word == "tell":
        return shelf.tell(parts[0])
    if word == "untell":
        return shelf.untell(parts[0])
    if word == "add":
        return shelf.add(parts[0], parts[1])
    if word == "drop":
        return shelf.drop(parts[0])
    return shelf.undo()


def do(shelf, deeds):
    """Does all deeds; the list of what they tell; BadDeed(place), or refused by the first that is refused."""
    for place, deed in enumerate(deeds):
        if not _is_deed(deed):
            raise BadDeed(place)
    told = []
    many = 0
    shelf.log_rows.append(("in", len(deeds)))
    shelf.is_at_work = True
    try:
        for deed in deeds:
            told.append(_done(shelf, deed))
            shelf.log_rows.append(deed[0])
            many += 1
    finally:
        # Whatever is refused in between, the log has both ends and the shelf is open again.
        shelf.log_rows.append(("out", many))
        shelf.is_at_work = False
    return told
