"""Walks, charts by steps, laid straight, searched for and cut shorter, as the document words them, without thought of time."""

from itertools import product

from plaincharts import Plain, filled, filled_atom, plain_fit, plain_premises
from plainly import all_heights, head_binding, plain_derivation
from ringproofs.rounds import is_let_by
from ringproofs.sayings import bindings, saying_variables


def matched(term, closed, table):
    """Puts the TERM's variables so that it is the closed one."""
    if isinstance(term, int):
        assert table.setdefault(term, closed) == closed
        return
    assert term[0] == closed[0]
    for part, other in zip(term[1:], closed[1:]):
        matched(part, other, table)


class Walk:
    """A walk through a right chart, each line begun by itself, as deep as it goes."""

    def __init__(self, defs, chart, world):
        self.defs, self.plain = defs, Plain(defs, chart)
        self.rows = []
        self.walk(0, dict(world))

    def below(self, line):
        return [other for other, above in sorted(self.plain.above.items()) if above == line]

    def split_by(self, line, hyp, atom, table):
        """The premise by the rule of the ATOM's derivation, and what its variables are put for."""
        chosen = plain_derivation(self.defs, atom)[-1][1]
        premise = 0
        for k, rule in enumerate(self.defs.rules(hyp[0])):
            fit = plain_fit(rule, hyp, self.plain.sayings[line])
            if k == chosen:
                table = dict(table)
                for variable, closed in head_binding(rule[0], atom).items():
                    matched(fit[1][variable], closed, table)
                return self.below(line)[premise], table
            premise += fit is not None

    def walk(self, line, table):
        saying, step = self.plain.sayings[line], self.plain.steps[line]
        table = {variable: table[variable] for variable in saying_variables(saying)}
        hyps = [filled_atom(hyp, table) for hyp in saying[0]]
        self.rows.append((line, [all_heights(self.defs, hyp)[hyp] for hyp in hyps]))
        if step[0] == "split":
            self.walk(*self.split_by(line, saying[0][step[1]], hyps[step[1]], table))
        elif step[0] in ("as", "back"):
            other = step[1] if step[0] == "back" else self.below(line)[0]
            self.walk(other, {variable: filled(term, table) for variable, term in step[2]})
        else:
            for premise in self.below(line):
                self.walk(premise, table)


def down(plain, line, other):
    """The hops from a line down to one beneath it, None where it isn't beneath."""
    hops = []
    while other != line:
        if other not in plain.above:
            return None
        hops.insert(0, (plain.above[other], other))
        other = plain.above[other]
    return hops


def plain_is_stepped(plain, places):
    """Whether a Plain chart is by steps with these pairs, one for each of its goals, as [20] words it."""
    chosen = dict(places)
    for back, a in plain.ends.items():
        if down(plain, a, back) is None:
            return False
        round_a = plain.links_of([*down(plain, a, back), (back, a)])
        if (chosen[a], chosen[a], 1) not in round_a:
            return False
        for c in chosen:
            if c != a and down(plain, c, a) is not None:
                for i, j, _ in plain.links_of(down(plain, c, a)):
                    if i == chosen[c] and not any(one == two == j for one, two, _ in round_a):
                        return False
    return True


def plain_all_places(plain):
    """All lists of one pair for each of the goals, as lists rise."""
    lines = sorted(set(plain.ends.values()))
    for places in product(*[range(len(plain.sayings[line][0])) for line in lines]):
        yield list(zip(lines, places))


def plain_straight(defs, chart, most):
    """The steps of the chart laid straight, None where they'd be more than so many."""
    plain = Plain(defs, chart)
    steps = []

    def lay(line, above):
        if len(steps) == most:
            raise OverflowError
        here = len(steps)
        step = plain.steps[line]
        steps.append(step)
        below = [other for other, over in sorted(plain.above.items()) if over == line]
        if step[0] == "back":
            copies = [number for other, number in above if other == step[1]]
            if step[1] == line:
                steps[here] = ("back", here, step[2])
            elif copies:
                steps[here] = ("back", copies[-1], step[2])
            else:
                steps[here] = ("as", plain.sayings[step[1]], step[2])
                below = [step[1]]
        for other in below:
            lay(other, above + [(line, here)])

    try:
        lay(0, [])
    except OverflowError:
        return None
    return tuple(steps)


def plain_tries(defs, saying, done):
    """All steps that the searcher may do, in its order."""
    wanted = [("by",)]
    wanted += [("back", line, binding) for line, other in done for binding in bindings(saying, other)]
    wanted += [(word, k) for word in ("split", "use") for k in range(9)]
    return [step for step in wanted if step[0] == "back" or plain_premises(defs, saying, step) is not None]


def plain_charts(defs, saying, many):
    """All lists of steps of so many lines by which a right chart of the saying stands, in order, let by or not."""
    def more(steps, todo):
        if not todo:
            if len(steps) == many:
                yield steps
            return
        now, above = todo[0]
        for step in plain_tries(defs, now, above):
            left = [] if step[0] == "back" else plain_premises(defs, now, step)
            below = [(each, above + [(len(steps), now)]) for each, _ in left]
            if len(steps) + len(left) + len(todo) <= many:
                yield from more(steps + [step], below + todo[1:])

    return more([], [(saying, [])])


def plain_search(defs, saying, most):
    """The first chart of fewest lines, or None."""
    for many in range(1, most + 1):
        for steps in plain_charts(defs, saying, many):
            if is_let_by(defs, (saying, tuple(steps))):
                return (saying, tuple(steps))
    return None


class Tree:
    """A line of a chart as a thing of its own: lines that it goes back to are Trees, so numbers don't matter."""

    def __init__(self, saying, step):
        self.saying, self.step = saying, step
        self.below = []
        self.target = None

    def all(self):
        return [self] + [tree for below in self.below for tree in below.all()]


def tree_of(defs, chart, known):
    """The Tree of a right chart."""
    trees = []

    def lay(saying):
        tree = Tree(saying, chart[1][len(trees)])
        trees.append(tree)
        if tree.step[0] not in ("back", "lean"):
            tree.below = [lay(left) for left, _ in plain_premises(defs, saying, tree.step)]
        return tree

    root = lay(chart[0])
    for tree in trees:
        if tree.step[0] == "back":
            tree.target = trees[tree.step[1]]
    return root


def steps_of(root, alike=()):
    """The steps of a Tree, None where something goes back to a Tree that isn't in it; alike are pairs (gone, its heir)."""
    trees = root.all()
    heirs = dict(alike)
    steps = []
    for tree in trees:
        step = tree.step
        if step[0] == "back":
            target = heirs.get(tree.target, tree.target)
            if target not in trees:
                return None
            step = ("back", trees.index(target), step[2])
        steps.append(step)
    return tuple(steps)


def exchanged(root, tree, other):
    """The Tree with one in it exchanged for another one, nothing being changed in place; and who is whose heir."""
    if root is tree:
        return other, []
    copy = Tree(root.saying, root.step)
    copy.target = root.target
    heirs = [(root, copy)]
    for below in root.below:
        new, more = exchanged(below, tree, other)
        copy.below.append(new)
        heirs += more
    return copy, heirs


def plain_changes(defs, chart, at, known):
    """The charts that come of one by the three changes at a line, in order."""
    root = tree_of(defs, chart, known)
    tree = root.all()[at]
    found = []
    if tree.step != ("by",):
        leaf = Tree(tree.saying, ("by",))
        new, heirs = exchanged(root, tree, leaf)
        found.append(steps_of(new, [*heirs, (tree, leaf)]))
    wanted = [other for other in tree.all()[1:] if other.saying == tree.saying][:1]
    if tree.step[0] == "cut":
        wanted.append(tree.below[1])
    for other in wanted:
        new, heirs = exchanged(root, tree, other)
        found.append(steps_of(new, [*heirs, (tree, other)]))
    return [(chart[0], steps) for steps in found if steps is not None]


def plain_shorter(defs, chart, known=()):
    """The chart cut shorter, change by change."""
    while True:
        for changed in [each for at in range(len(chart[1])) for each in plain_changes(defs, chart, at, known)]:
            if is_let_by(defs, changed, known=known):
                break
        else:
            return chart
        chart = changed
