"""Heights and derivations as the document words them, without thought of time: what the program tells is held against it."""

from random import Random

from ringproofs.definitions import Definitions


def parts_of(term):
    """All TERMs within a closed TERM, unlike."""
    found = [term]
    for part in term[1:]:
        found.extend(each for each in parts_of(part) if each not in found)
    return found


def head_binding(head, atom):
    """What the head's variables are put for, or None where it isn't the head of this ATOM."""
    if len(head) != len(atom):
        return None
    found = {}
    for pattern, term in zip(head[1:], atom[1:]):
        if isinstance(pattern, int):
            found[pattern] = term
        elif pattern[0] != term[0]:
            return None
        else:
            found.update(zip(pattern[1:], term[1:]))
    return found


def bodies_of(defs, atom):
    """(k, body) of each rule of the ATOM's word whose head it is."""
    found = []
    for k, (head, body) in enumerate(defs.rules(atom[0])):
        binding = head_binding(head, atom)
        if binding is not None:
            found.append((k, [(each[0], *[binding[term] for term in each[1:]]) for each in body]))
    return found


def all_heights(defs, atom):
    """The heights of all ATOMs that the ATOM may need, found round by round."""
    parts = []
    for term in atom[1:]:
        parts.extend(each for each in parts_of(term) if each not in parts)
    atoms = [atom]
    for word in defs.words():
        if defs.terms(word) == 1:
            atoms.extend((word, term) for term in parts)
        else:
            atoms.extend((word, left, right) for left in parts for right in parts)
    heights = {}
    now = 0
    while now <= len(atoms):
        now += 1
        new = [each for each in atoms if each not in heights
               and any(all(one in heights for one in body) for _, body in bodies_of(defs, each))]
        if not new:
            return heights
        heights.update((each, now) for each in new)
    raise AssertionError("no end")


def plain_derivation(defs, atom):
    heights = all_heights(defs, atom)
    if atom not in heights:
        return None
    rows = {}

    def need(each):
        for k, body in bodies_of(defs, each):
            if all(one in heights for one in body) and 1 + max((heights[one] for one in body), default=0) == heights[each]:
                if each not in rows:
                    rows[each] = k
                    for one in body:
                        need(one)
                return

    need(atom)
    return sorted(rows.items(), key=lambda row: (heights[row[0]], row))


def drawn_rule(draw, words):
    head_word = draw.choice(sorted(words))
    many = 0
    terms = []
    for _ in range(words[head_word]):
        sign = draw.choice(["x", "0", "s", "s", "f"])
        takes = {"x": 1, "0": 0, "s": 1, "f": 2}[sign]
        terms.append(many if sign == "x" else (sign, *range(many, many + takes)))
        many += takes
    body = []
    for _ in range(draw.randrange(4) if many else 0):
        word = draw.choice(sorted(words))
        body.append((word, *[draw.randrange(many) for _ in range(words[word])]))
    return ((head_word, *terms), tuple(body))


def drawn_definitions(seed):
    """Eight rules of up to six words, the same for each seed, with some without a body."""
    draw = Random(seed)
    words = {"p": 1, "q": 1, "r": 2, "t": draw.choice([1, 2]), "u": 1, "v": draw.choice([1, 2])}
    kept = dict(sorted(words.items())[:draw.randrange(1, 7)])
    return Definitions([drawn_rule(draw, kept) for _ in range(8)])
