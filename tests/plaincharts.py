"""Steps, charts and judgements as the document words them, without thought of time: the program is held against it."""

from itertools import product

from ringproofs.sayings import bindings, saying_variables


def filled(term, table):
    """The TERM with each variable that the table has exchanged, all at once."""
    if isinstance(term, int):
        return table.get(term, term)
    return (term[0], *[filled(part, table) for part in term[1:]])


def filled_atom(atom, table):
    return (atom[0], *[filled(term, table) for term in atom[1:]])


def filled_saying(saying, table):
    return (once([filled_atom(hyp, table) for hyp in saying[0]]), filled_atom(saying[1], table))


def once(atoms):
    return tuple(atom for k, atom in enumerate(atoms) if atom not in atoms[:k])


def is_own(term):
    """Whether it's one of the rule's variables, which are ("?", k) here; the saying's are numbers."""
    return not isinstance(term, int) and term[0] == "?"


def end_of(term, table):
    while (isinstance(term, int) or is_own(term)) and term in table:
        term = table[term]
    return term


def made_alike(left, right, table):
    """Unifies two TERMs, the textbook's way: the rule's variables go ahead, of two of these the later one."""
    left, right = end_of(left, table), end_of(right, table)
    if left == right:
        return True
    if is_own(right) and not (is_own(left) and left[1] > right[1]):
        left, right = right, left
    if is_own(left) or isinstance(left, int):
        table[left] = right
        return True
    if isinstance(right, int):
        table[right] = left
        return True
    if left[0] != right[0]:
        return False
    return all(made_alike(one, two, table) for one, two in zip(left[1:], right[1:]))


def unfolded(term, table):
    term = end_of(term, table)
    if isinstance(term, int) or is_own(term):
        return term
    return (term[0], *[unfolded(part, table) for part in term[1:]])


def renamed(term, names):
    if isinstance(term, int):
        return term
    if is_own(term):
        return names[term]
    return (term[0], *[renamed(part, names) for part in term[1:]])


def plain_fit(rule, atom, saying):
    """(what is put for the saying's variables, what for the rule's, the new ones), or None."""
    head = rule[0]
    if len(head) != len(atom):
        return None
    variables = [k for term in head[1:] for k in ([term] if isinstance(term, int) else term[1:])]
    own = {k: ("?", k) for k in variables}
    table = {}
    for pattern, term in zip(head[1:], atom[1:]):
        if not made_alike(filled(pattern, own), term, table):
            return None
    above = max(saying_variables(saying), default=-1) + 1
    free = [mark for mark in own.values() if mark not in table]
    names = {mark: above + k for k, mark in enumerate(free)}
    put = {variable: renamed(unfolded(variable, table), names) for variable in table if isinstance(variable, int)}
    values = {k: renamed(unfolded(mark, table), names) for k, mark in own.items()}
    return put, values, list(names.values())


def plain_premises(defs, saying, step):
    """The list of (SAYING, links), or None where the step can't be done."""
    hyps, goal = saying
    word = step[0]
    kept = [(k, k, 0) for k in range(len(hyps))]
    found = []
    if word == "by":
        return [] if goal in hyps else None
    if word == "use":
        for k, rule in enumerate(defs.rules(goal[0])):
            fit = plain_fit(rule, goal, saying)
            if k == step[1] and fit is not None and not fit[0]:
                return [((hyps, filled_atom(atom, fit[1])), kept) for atom in rule[1]]
        return None
    if word == "split":
        if step[1] >= len(hyps):
            return None
        for rule in defs.rules(hyps[step[1]][0]):
            fit = plain_fit(rule, hyps[step[1]], saying)
            if fit is None:
                continue
            if any(new > 99 for new in fit[2]):
                return None
            now = [filled_atom(hyp, fit[0]) for hyp in hyps]
            body = [filled_atom(atom, fit[1]) for atom in rule[1]]
            left = once(now[:step[1]] + body + now[step[1] + 1:])
            links = {(k, left.index(hyp), 0) for k, hyp in enumerate(now) if k != step[1]}
            links |= {(step[1], left.index(atom), 1) for atom in body}
            found.append(((left, filled_atom(goal, fit[0])), sorted(links)))
    if word == "cut":
        if not set(saying_variables(((), step[1]))) <= set(saying_variables(saying)):
            return None
        found = [((hyps, step[1]), kept), ((once(hyps + (step[1],)), goal), list(kept))]
    if word == "as":
        if not plain_comes_of(saying, step[1], step[2]):
            return None
        found = [(step[1], plain_handed(saying, step[1], step[2]))]
    return found if all(len(left[0]) <= 6 for left, _ in found) else None


def plain_comes_of(saying, other, binding):
    if sorted(dict(binding)) != saying_variables(other):
        return False
    hyps, goal = filled_saying(other, dict(binding))
    return goal == saying[1] and set(hyps) <= set(saying[0])


def plain_handed(saying, other, binding):
    return [(i, j, 0) for i, hyp in enumerate(saying[0]) for j, before in enumerate(other[0])
            if filled_atom(before, dict(binding)) == hyp]


class Plain:
    """A right chart: its lines, and how hyps are handed on from each to the next."""

    def __init__(self, defs, chart):
        self.sayings, self.steps = [], chart[1]
        self.above, self.links = {}, {}
        self.lay(defs, chart[0])
        self.ends = {}
        for line, step in enumerate(self.steps):
            if step[0] == "back":
                self.ends[line] = step[1]
                self.links[line, step[1]] = plain_handed(self.sayings[line], self.sayings[step[1]], step[2])

    def lay(self, defs, saying):
        line = len(self.sayings)
        self.sayings.append(saying)
        for left, links in plain_premises(defs, saying, self.steps[line]):
            below = len(self.sayings)
            self.above[below] = line
            self.links[line, below] = links
            self.lay(defs, left)

    def way(self, line, back):
        """The hops from a line down to a line of back that is it, or beneath it, and on; None where it isn't."""
        hops = [(back, self.ends[back])]
        while back != line:
            if back not in self.above:
                return None
            hops.insert(0, (self.above[back], back))
            back = self.above[back]
        return hops

    def links_of(self, hops):
        """The links of a way, each trace followed by itself."""
        found = {}
        for first in range(len(self.sayings[hops[0][0]][0])):
            traces = {(first, 0)}
            for hop in hops:
                traces = {(j, max(falls, more)) for at, falls in traces for i, j, more in self.links[hop] if i == at}
            for at, falls in traces:
                found[first, at] = max(falls, found.get((first, at), 0))
        return [(i, j, falls) for (i, j), falls in sorted(found.items())]

    def leaps(self):
        rows = []
        for line in sorted(set(self.ends.values())):
            for back, other in self.ends.items():
                hops = self.way(line, back)
                if hops is not None and (line, other, self.links_of(hops)) not in rows:
                    rows.append((line, other, self.links_of(hops)))
        return sorted(rows)

    def round_way(self, backs):
        """The hops of the whole way round by these lines of back, or None where they don't lead round."""
        hops = []
        for ahead, back in zip([backs[-1], *backs[:-1]], backs):
            more = self.way(self.ends[ahead], back)
            if more is None:
                return None
            hops.extend(more)
        return hops

    def rounds(self, most):
        """All lists of at most so many lines of back that lead round."""
        for many in range(1, most + 1):
            for backs in product(self.ends, repeat=many):
                if self.round_way(list(backs)) is not None:
                    yield list(backs)

    def falls_for_ever(self, backs):
        """Whether, going round and round so, some trace falls again and again."""
        links = self.links_of(self.round_way(backs))
        reach = {(i, j) for i, j, _ in links}
        while True:
            more = {(i, m) for i, j in reach for k, m in reach if j == k} - reach
            if not more:
                break
            reach |= more
        return any(falls and ((j, i) in reach or i == j) for i, j, falls in links)


def drawn_term(draw, variables, signs):
    if signs <= 1 or draw.random() < 0.5:
        return draw.choice([*variables, *variables, ("0",)])
    if draw.random() < 0.7:
        return ("s", drawn_term(draw, variables, signs - 1))
    return ("f", drawn_term(draw, variables, signs // 2), drawn_term(draw, variables, signs // 2))


def drawn_atom(draw, defs, variables, signs):
    word = draw.choice(defs.words())
    return (word, *[drawn_term(draw, variables, signs) for _ in range(defs.terms(word))])


def drawn_saying(draw, defs, variables, signs=3, most=3):
    hyps = [drawn_atom(draw, defs, variables, signs) for _ in range(draw.randrange(most + 1))]
    return (once(hyps), drawn_atom(draw, defs, variables, signs))


def drawn_step(draw, defs, saying, words=("by", "use", "split", "split", "split", "split", "cut", "as")):
    """Some STEP, which may be one that can't be done."""
    word = draw.choice(words)
    if word in ("use", "split"):
        return (word, draw.randrange(3))
    known = saying_variables(saying) or [0]
    if word == "cut":
        return (word, drawn_atom(draw, defs, known, 2))
    if word == "as":
        other = (tuple(hyp for hyp in saying[0] if draw.random() < 0.8), saying[1])
        names = saying_variables(other)
        mixed = draw.sample(names, len(names))
        table = dict(zip(names, mixed))
        return (word, filled_saying(other, table), tuple(sorted((new, old) for old, new in table.items())))
    return (word,)


def done_step(draw, defs, saying):
    """A STEP that can be done, of which no premise has more than three hyps, with what it leaves; or None."""
    words = ["split", "split", "split", "split", "split", "split", "cut", "as"]
    ready = [("by",), ("use", 0), ("use", 1), ("use", 2)] if draw.random() < 0.8 else []
    for step in [*ready, *[drawn_step(draw, defs, saying, words) for _ in range(6)]]:
        left = plain_premises(defs, saying, step)
        if left is not None and all(len(each[0]) <= 3 for each, _ in left):
            return step, [each for each, _ in left]
    return None


def drawn_chart(draw, defs, saying, most):
    """A right chart of at most so many lines, the steps drawn first and then where lines of back go; or None.

    A line is one of back mostly where it comes of one above, so that many of the charts are let by.
    """
    sayings, steps, todo = [], [], [(saying, [])]
    while todo:
        now, above = todo.pop()
        if len(steps) + len(todo) >= most:
            return None
        comes = any(bindings(now, sayings[line]) for line in above)
        chosen = None if above and draw.random() < (0.9 if comes else 0.02) else done_step(draw, defs, now)
        step, left = chosen or (None, [])
        todo.extend((each, above + [len(sayings)]) for each in reversed(left))
        sayings.append(now)
        steps.append(step)
    for line, step in enumerate(steps):
        if step is None:
            ways = [("back", other, binding) for other, target in enumerate(sayings)
                    for binding in bindings(sayings[line], target)]
            if not ways:
                return None
            early = [way for way in ways if way[1] < line]
            steps[line] = draw.choice(early if early and draw.random() < 0.7 else ways)
    return (saying, tuple(steps))


def machine(hyps, branches):
    """A chart whose links are as one likes: each branch is (places that fall, line to go back to, whence each place comes).

    The saying of every line is the same one: rules lead it round to itself.
    """
    saying = (tuple(("n", k + 1) for k in range(hyps)), ("go", 0))
    steps = [("use", len(branches) - 1)]
    for places, line, whence in branches:
        steps.extend(("split", place) for place in places)
        steps.append(("back", line, ((0, 0), *[(k + 1, place + 1) for k, place in enumerate(whence)])))
    return (saying, tuple(steps))


MACHINE_RULES = "go x0 if go x0\ngo x0 if go x0, go x0\ngo x0 if go x0, go x0, go x0\nn x0 if n x0"


def drawn_machine(draw, hyps, many, targets):
    """A machine of so many branches, which go back to some of so many lines."""
    falls = [[place for place in range(hyps) if draw.random() < 0.5] for _ in range(many)]
    last = sum(len(places) + 1 for places in falls)
    ends = draw.sample(range(last + 1), min(targets, last + 1))
    return machine(hyps, [(places, draw.choice(ends), [draw.randrange(hyps) for _ in range(hyps)]) for places in falls])


def plain_together(links, others):
    """The links of two parts of a way, through each place between them."""
    places = {place for row in (*links, *others) for place in row[:2]}
    found = []
    for first in sorted(places):
        for last in sorted(places):
            falls = [max(one[2], two[2]) for one in links for two in others
                     if one[0] == first and one[1] == two[0] and two[1] == last]
            if falls:
                found.append((first, last, max(falls)))
    return found


def plain_is_paper(leaps, paper):
    """Whether a list of rings that are so written is a paper, by the leaps."""
    for first in paper:
        for second in paper:
            if first[1] == second[0] and (first[0], second[1], plain_together(first[2], second[2])) not in paper:
                return False
    alike = [ring for ring in paper if ring[0] == ring[1] and plain_together(ring[2], ring[2]) == ring[2]]
    return all(leap in paper for leap in leaps) and all(any(i == j and falls for i, j, falls in ring[2]) for ring in alike)


def plain_is_round(plain, backs):
    """Whether a list of lines is a round of a Plain chart."""
    if not backs or not all(back in plain.ends for back in backs) or plain.round_way(backs) is None:
        return False
    links = plain.links_of(plain.round_way(backs))
    return plain_together(links, links) == links and not any(i == j and falls for i, j, falls in links)
