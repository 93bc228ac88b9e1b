"""What must be read: the cheapest set of unchanged functions that decides the verdict of a change."""

from mustread.cases import Knowledge
from mustread.checks import changed_program, check_cases, check_chosen, unchanged_names
from mustread.derivations import derives
from mustread.rivals import differing, is_rival
from mustread.searches import explore, rival_of


def is_enough(program, change, chosen):
    """Return whether each rival that does not differ at a chosen function has the verdict of the program."""
    changed_program(program, change)
    check_chosen(program, change, chosen)
    check_cases(program, change)
    knowledge = Knowledge(program, change, chosen)
    tree, _ = explore(knowledge, knowledge.free_case())
    return tree is not None


def must_read(program, change):
    """Return the Reading with the cheapest set that is enough, the first one in the order of the program."""
    changed_program(program, change)
    check_cases(program, change)
    doubts = []
    tree = None
    waiting = sets_by_cost(program, unchanged_names(program, change))
    # The last set has all unchanged functions, so it leaves no doubt.
    while tree is None:
        chosen = waiting.pop(0)
        if meets_all(program, chosen, doubts):
            knowledge = Knowledge(program, change, chosen)
            tree, case = explore(knowledge, knowledge.free_case())
            if tree is None:
                doubts.append(rival_of(knowledge, case))
    return Reading(chosen, tree, doubts)


def sets_by_cost(program, names):
    """Return all sets of these names, the cheapest first, then by their lists of indices."""
    rows = [(0, [])]
    for index, name in enumerate(names):
        size = program.body(name).size
        rows = rows + [(spent + size, [*indices, index]) for spent, indices in rows]
    return [[names[at] for at in indices] for _, indices in sorted(rows)]


def cost(program, names):
    """Return the number of nodes that reading these functions costs."""
    return sum([program.body(name).size for name in names])


def meets_all(program, chosen, doubts):
    """Whether each doubt differs from the program at a chosen function."""
    return all([any([name in chosen for name in differing(program, doubt)]) for doubt in doubts])


def is_same_tree(tree, other):
    """Whether two trees are equal; they may be deeper than Python itself can compare."""
    waiting = [(tree, other)]
    while waiting:
        one, two = waiting.pop()
        if isinstance(one, tuple) and isinstance(two, tuple):
            if len(one) != len(two):
                return False
            waiting.extend(list(zip(one, two)))
        elif isinstance(one, tuple) or isinstance(two, tuple) or not is_same_item(one, two):
            return False
    return True


def is_same_item(one, two):
    """Whether two words, names or arguments are equal; a boolean is not an integer."""
    return isinstance(one, bool) == isinstance(two, bool) and one == two


class Reading:
    """A set of functions to read, a derivation that it is enough, and rivals that refute each cheaper set."""

    def __init__(self, chosen, tree, doubts):
        self.chosen = list(chosen)
        self.tree = tree
        self.doubts = list(doubts)

    def __eq__(self, other):
        return (isinstance(other, Reading) and self.chosen == other.chosen and self.doubts == other.doubts
                and is_same_tree(self.tree, other.tree))

    def shows(self, program, change):
        """Return whether the set is enough by the tree, and no cheaper one is by the doubts."""
        verdict = changed_program(program, change).kept
        check_cases(program, change)
        if not derives(program, change, self.chosen, self.tree):
            return False
        for doubt in self.doubts:
            if not is_rival(program, change, doubt) or doubt.changed(change).kept == verdict:
                return False
        most = cost(program, self.chosen)
        for chosen in sets_by_cost(program, unchanged_names(program, change)):
            if cost(program, chosen) < most and meets_all(program, chosen, self.doubts):
                return False
        return True
