"""Derivations: trees of cases that show that a set of unchanged functions is enough."""

from mustread.cases import Knowledge, assume
from mustread.checks import changed_program, check_chosen
from mustread.errors import BadTree
from mustread.expressions import is_value

MOST_NODES = 100000
# The number of items of a tuple that begins with this word.
ITEMS = {"void": 1, "kept": 1, "broken": 3, "old": 4, "new": 4}


def derives(program, change, chosen, tree):
    """Return whether a tree shows that a set of unchanged functions is enough."""
    changed_program(program, change)
    check_chosen(program, change, chosen)
    check_tree(program, tree)
    return is_correct(Knowledge(program, change, chosen), tree)


def check_tree(program, tree):
    """Refuse what is not a tree for this program, or has too many nodes."""
    # A tree may be deep, so what is still to be seen stands in a list, here and below.
    waiting = [tree]
    many = 1
    while waiting:
        node = waiting.pop()
        if not is_node(program, node):
            raise BadTree("not a tree of cases")
        parts = trees_of(node)
        many += len(parts)
        if many > MOST_NODES:
            raise BadTree("a tree with too many nodes")
        waiting.extend(parts)


def is_node(program, node):
    """Whether this is a tuple with the items that its word asks for; its trees are not looked at."""
    if not isinstance(node, tuple) or len(node) == 0:
        return False
    word = node[0]
    if not isinstance(word, str) or word not in ITEMS or len(node) != ITEMS[word]:
        return False
    if len(node) > 1 and not is_place(program, node[1], node[2]):
        return False
    return len(node) < 4 or isinstance(node[3], tuple)


def is_place(program, name, argument):
    """Whether this is the name of a function of the program, and one of its arguments."""
    return isinstance(name, str) and name in program.names and is_value(argument, program.size)


def trees_of(node):
    """Return the trees of a node, none for a node that has no place for any."""
    return node[3] if len(node) == 4 else ()


def is_correct(knowledge, tree):
    """Whether a tree is correct if nothing is assumed; all its parts are looked at until one is wrong."""
    waiting = [(tree, knowledge.free_case())]
    while waiting:
        node, case = waiting.pop()
        if not is_correct_node(knowledge, node, case):
            return False
        for value, part in zip(values_of(knowledge, node), trees_of(node)):
            waiting.append((part, assume(case, node[0], node[1], node[2], value)))
    return True


def is_correct_node(knowledge, node, case):
    """Whether a node is correct in a case, provided that its trees are."""
    word = node[0]
    if word in ("old", "new"):
        return is_correct_split(knowledge, node, case)
    states = knowledge.possible(case)
    if word == "void":
        return knowledge.is_void(states)
    if word == "kept":
        return knowledge.verdict and knowledge.is_kept(states)
    return not knowledge.verdict and knowledge.is_broken(states, node[1], node[2])


def is_correct_split(knowledge, node, case):
    """Whether a node may tell these cases apart, and has a tree for each."""
    word, name, argument, trees = node
    if name not in knowledge.unread or case[word, name][argument] is not None:
        return False
    if word == "new" and knowledge.calls_only_settled(knowledge.possible(case), name):
        return False
    return len(trees) == len(values_of(knowledge, node))


def values_of(knowledge, node):
    """Return the values for which a node needs a tree each, ascending."""
    if node[0] == "old":
        return knowledge.program.contract(node[1]).rows[node[2]]
    if node[0] == "new":
        return tuple(range(knowledge.program.size))
    return ()
