"""Checks of the arguments that several modules take, in the order in which the errors are documented."""

from mustread.errors import BadChoice, BadProgram, TooLarge
from mustread.programs import Program

MOST_CASES = 2000


def check_program(program):
    """Refuse what is not a program that keeps its contracts."""
    if not isinstance(program, Program) or not program.kept:
        raise BadProgram("not a program that keeps its contracts")


def changed_program(program, change):
    """Return the program after a change; it must keep its contracts before the change."""
    check_program(program)
    return program.changed(change)


def unchanged_names(program, change):
    """Return the names of the functions that are not changed, in order."""
    return [name for name in program.names if name not in change]


def check_chosen(program, change, chosen):
    """Refuse what is not a list or tuple of different unchanged names in order."""
    if not isinstance(chosen, (list, tuple)) or not all([isinstance(name, str) for name in chosen]):
        raise BadChoice("not a list or tuple of names")
    if list(chosen) != [name for name in unchanged_names(program, change) if name in chosen]:
        raise BadChoice("not different unchanged names in order")


def check_cases(program, change):
    """Refuse a change with too many cases of results of its unchanged functions."""
    many = 1
    touched = list(change)
    for name in unchanged_names(program, change):
        # A called function comes earlier, so it is known already whether the change can reach it.
        reached = any([called in touched for called in program.body(name).calls])
        if reached:
            touched.append(name)
        for row in program.contract(name).rows:
            many = many * len(row)
            if reached:
                many = many * program.size
    if many > MOST_CASES:
        raise TooLarge("more than 2000 cases")
