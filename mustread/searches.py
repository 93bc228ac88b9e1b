"""The search through all cases: for a derivation, or for a rival with the other verdict."""

from mustread.cases import NEW, OLD, assume, possible_table, tables_of
from mustread.expressions import Call, Choose, Const
from mustread.programs import Program


def explore(knowledge, case):
    """Return a tree that is correct in a case, and None; or None, and a case with the other verdict.

    The results are told in the order of the functions, so in the end each function has one old and one
    new result for each argument, and some rival has just these.
    """
    states = knowledge.possible(case)
    leaf = closing_leaf(knowledge, states)
    if leaf is not None:
        return leaf, None
    place = open_place(knowledge, states)
    if place is None:
        return None, case
    word, name, argument, values = place
    trees = []
    for value in values:
        tree, other = explore(knowledge, assume(case, word, name, argument, value))
        if tree is None:
            return None, other
        trees.append(tree)
    return (word, name, argument, tuple(trees)), None


def closing_leaf(knowledge, states):
    """Return a tree without further cases that is correct, or None."""
    if knowledge.is_void(states):
        return ("void",)
    if knowledge.verdict:
        return ("kept",) if knowledge.is_kept(states) else None
    for name in states:
        for argument in range(knowledge.program.size):
            if knowledge.is_broken(states, name, argument):
                return ("broken", name, argument)
    return None


def open_place(knowledge, states):
    """Return the first result of an unread function that is open: a word, a name, an argument and the values."""
    for name in knowledge.unread:
        for word, table in (("old", states[name][OLD]), ("new", states[name][NEW])):
            for argument, row in enumerate(table):
                if len(row) > 1:
                    return word, name, argument, row
    return None


def rival_of(knowledge, case):
    """Return a rival with the results of a case in which each function has one for each argument."""
    states = knowledge.possible(case)
    program = knowledge.program
    functions = {}
    for name in program.names:
        body = program.body(name)
        if name in knowledge.unread and not has_results(body, states, name):
            body = body_with(program, states, name)
        functions[name] = (program.contract(name), body)
    return Program(program.size, functions)


def has_results(body, states, name):
    """Whether a body has the old and the new results of a function."""
    old, new, _ = states[name]
    found = [possible_table(body, len(old), tables_of(states, at)) for at in (OLD, NEW)]
    return found == [old, new]


def body_with(program, states, name):
    """Return a body that has the old and the new results of a function."""
    old, new, _ = states[name]
    before = Choose.table([row[0] for row in old])
    after = Choose.table([row[0] for row in new])
    place = first_difference(states, program.body(name).calls)
    if place is None:
        return before
    # Only a call whose result differs can tell the changed program from the old one.
    called, argument, value = place
    cases = [after if number == value else before for number in range(program.size)]
    return Choose(Call(called, Const(argument)), tuple(cases))


def first_difference(states, calls):
    """Return a name, an argument and the new result of a called function whose old result is another, or None."""
    for name in calls:
        old, new, _ = states[name]
        for argument, row in enumerate(new):
            if row != old[argument]:
                return name, argument, row[0]
    return None
