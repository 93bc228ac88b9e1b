"""Runs the tests of this folder, and writes and reads back each program and each change that they made.

    python3 tests/recording.py
"""

import pathlib
import sys
import unittest

HERE = pathlib.Path(__file__).resolve().parent
sys.path[:0] = [str(HERE.parent), str(HERE)]

from mustread.programs import Program
from mustread.texts import change_text, expression_text, program_text, read_change, read_program

MAKE, CHANGE = Program.__init__, Program.changed
PROGRAMS, CHANGES = {}, {}


def make(program, *given, **named):
    MAKE(program, *given, **named)
    PROGRAMS[program_text(program)] = program


def changed(program, change):
    new = CHANGE(program, change)
    if program.kept:
        bodies = tuple((name, expression_text(change[name])) for name in change)
        CHANGES[program_text(program), bodies] = (program, dict(change))
    return new


def run_tests():
    """Whether all tests pass; it notes what they make."""
    Program.__init__, Program.changed = make, changed
    tests = unittest.defaultTestLoader.discover(str(HERE))
    good = unittest.TextTestRunner().run(tests).wasSuccessful()
    Program.__init__, Program.changed = MAKE, CHANGE
    return good


def check_programs():
    for text, program in PROGRAMS.items():
        found = read_program(text)
        assert found == program and found.names == program.names and program_text(found) == text, text


def check_changes():
    for program, change in CHANGES.values():
        text = change_text(program, change)
        found = read_change(program, text)
        assert found == change and change_text(program, found) == text, text
        assert list(found) == [name for name in program.names if name in change], text


if __name__ == "__main__":
    if not run_tests():
        sys.exit("A test has failed.")
    check_programs()
    check_changes()
    print(f"{len(PROGRAMS)} programs and {len(CHANGES)} changes are read as they were written.")
