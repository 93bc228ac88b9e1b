"""Rivals: programs that cannot be told from a program without reading unchanged functions."""

from mustread.checks import changed_program
from mustread.errors import BadProgram
from mustread.programs import Program


def is_rival(program, change, other):
    """Return whether another program is a rival of a program and a change."""
    changed_program(program, change)
    if not isinstance(other, Program):
        raise BadProgram("what is compared is not a program")
    if other.size != program.size or other.names != program.names or not other.kept:
        return False
    return all([could_be(program, change, other, name) for name in program.names])


def could_be(program, change, other, name):
    """Whether a function of another program looks like the one of the program to who does not read it."""
    if other.contract(name) != program.contract(name):
        return False
    if name in change:
        return other.body(name) == program.body(name)
    known = program.body(name).calls
    return all([called in known for called in other.body(name).calls])


def differing(program, other):
    """Return the names of the functions whose bodies are different in two programs with the same names."""
    if not isinstance(program, Program) or not isinstance(other, Program):
        raise BadProgram("what is compared is not a program")
    if program.names != other.names:
        raise BadProgram("programs with other names")
    return [name for name in program.names if program.body(name) != other.body(name)]
