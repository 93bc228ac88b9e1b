"""What several test files use."""

import unittest

from mustread.errors import BadProgram, MustError
from mustread.expressions import Arg, Call, Choose, Const
from mustread.programs import Contract, Program

FREE = Contract.free(2)
FREE3 = Contract.free(3)
ZERO = Contract(((0,), (0, 1)))
NONE = Contract.exactly((0, 0))
VOID, KEPT = ("void",), ("kept",)

# For the functions a, f and g, where f is changed to 0 and g calls it.
PROGRAM = Program(2, {"a": (FREE, Arg()), "f": (FREE, Arg()), "g": (FREE, Call("f", Arg()))})
CHANGE = {"f": Const(0)}
NO_PROGRAMS = [True, False, None, "", "ab", b"ab", 0, 2, [], (), {}, {"f": (FREE, Arg())}, object(), Arg(), FREE, Program,
               Program(2, {"f": (ZERO, Const(1))})]
NO_CHANGES = [{}, None, 0, 1, True, [], (), "f", [("f", Const(0))], {"f"}, {"f": Arg()}, {"x": Const(0)}, {"f": 0},
              {0: Const(0)}, {None: Const(0)}, {"f": Choose(Arg(), (Const(0), Call("x", Arg())))},
              {"f": Call("g", Arg())}, {"f": Const(0), "a": Arg()}, Const(0)]
NO_CHOICES = [None, 0, True, "", "a", "ag", {"a"}, {"a": 1}, ["g", "a"], ["a", "a"], ["f"], ["a", "f"], ["x"],
              ["a", "x"], ["a", "g", "x"], [0], [True], [None], [["a"]], [("a",)], [{}], ("g", "a"), ("f",), (b"a",),
              ("a", "g", "a"), Arg()]


class Same:
    """What says to be equal to everything is not a name for that."""

    def __eq__(self, other):
        return True

    def __hash__(self):
        return hash("f")


NO_NAMES = [None, 0, 1, True, False, "", "x", "ab", "F", "f ", b"f", [], ["f"], ("f",), {"f": 1}, {"f"}, Arg(), FREE, Same()]


class Case(unittest.TestCase):
    def refuses(self, error, make, *arguments):
        """The call raises just this error."""
        with self.assertRaises(error) as caught:
            make(*arguments)
        self.assertIs(type(caught.exception), error)
        self.assertIsInstance(caught.exception, MustError)
        if error is BadProgram:
            self.assertIsNone(caught.exception.part)
