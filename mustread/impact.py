"""Impact: the results that differ after a change, where they come from, and which parts of the change matter."""

from itertools import combinations

from mustread.checks import changed_program
from mustread.errors import BadName
from mustread.expressions import Call, Choose, is_value


def impact(program, change):
    """Return each place whose result differs: its name, its argument, the old result and the new one."""
    renewed = changed_program(program, change)
    found = []
    for name, argument, result in program.places():
        other = renewed.results(name)[argument]
        if other != result:
            found.append((name, argument, result, other))
    return found


def trail(program, change, name, argument):
    """Yield the places from a place of the impact to one of a changed function, a name and an argument each."""
    renewed = changed_program(program, change)
    if not is_place(program, name, argument) or not differs(program, renewed, name, argument):
        raise BadName("not a place of the impact")
    found = [(name, argument)]
    while name not in change:
        name, argument = next_place(program, renewed, name, argument)
        found.append((name, argument))
    # All places are found before the first one is yielded: the caller may alter the change after that.
    yield from found


def is_place(program, name, argument):
    """Whether this is a name of a program and an argument of its functions."""
    return isinstance(name, str) and name in program.names and is_value(argument, program.size)


def differs(program, renewed, name, argument):
    """Whether a function has another result in the changed program."""
    return program.results(name)[argument] != renewed.results(name)[argument]


def next_place(program, renewed, name, argument):
    """Return the place of the first call whose result differs, for a place of an unchanged function that differs."""
    tables = {known: program.results(known) for known in program.names}
    # Up to this call, both programs evaluate the same calls.
    evaluated = evaluated_calls(program.body(name), argument, tables)
    return [place for place in evaluated if differs(program, renewed, place[0], place[1])][0]


def evaluated_calls(node, argument, tables):
    """Return the name and the argument of each call of an expression, in the order in which they are evaluated."""
    if isinstance(node, Call):
        value = node.argument.value(argument, tables)
        return evaluated_calls(node.argument, argument, tables) + [(node.name, value)]
    if isinstance(node, Choose):
        part = node.cases[node.test.value(argument, tables)]
        return evaluated_calls(node.test, argument, tables) + evaluated_calls(part, argument, tables)
    return []


def culprit(program, change):
    """Return the names of the smallest part of a change that breaks a contract, or None if the change breaks none."""
    if changed_program(program, change).kept:
        return None
    return [part for part in parts_of(program, change) if not is_harmless(program, change, part)][0]


def harmless(program, change):
    """Return the names of the largest part of a change that breaks no contract."""
    changed_program(program, change)
    found = [part for part in parts_of(program, change) if is_harmless(program, change, part)]
    most = max([len(part) for part in found])
    return [part for part in found if len(part) == most][0]


def parts_of(program, change):
    """Return the names of each part of a change, the smallest parts first, then by their lists of indices."""
    names = [name for name in program.names if name in change]
    found = []
    for many in range(len(names) + 1):
        for part in combinations(names, many):
            found.append(list(part))
    return found


def is_harmless(program, change, part):
    """Whether the program keeps its contracts with the new bodies of these functions."""
    # The empty part is not a change: the program stays as it is, and it keeps its contracts.
    return len(part) == 0 or program.changed({name: change[name] for name in part}).kept
