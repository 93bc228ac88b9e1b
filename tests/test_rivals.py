import unittest

import support
from mustread import rivals
from mustread.errors import BadChange, BadProgram
from mustread.expressions import Arg, Call, Choose, Const
from mustread.programs import Contract, Program
from mustread.rivals import differing, is_rival
from support import FREE, NO_CHANGES, NO_PROGRAMS, ZERO, Case

PARTS = {"f": (FREE, Arg()), "g": (ZERO, Call("f", Const(0))), "h": (FREE, Call("g", Call("f", Arg()))),
         "k": (ZERO, Const(0))}
PROGRAM = Program(2, PARTS)
CHANGE = {"f": Const(1)}


def other(**parts):
    return Program(2, {**PARTS, **parts})


class IsRivalTest(Case):
    def is_one(self, program, change=None):
        answer = is_rival(PROGRAM, CHANGE if change is None else change, program)
        self.assertIs(type(answer), bool)
        return answer

    def test_defined_here(self):
        for function in (is_rival, differing):
            self.assertEqual(function.__module__, rivals.__name__)

    def test_the_program_itself(self):
        self.assertTrue(self.is_one(PROGRAM))
        self.assertTrue(self.is_one(Program(2, dict(PARTS))))

    def test_other_bodies_of_unchanged_functions(self):
        for body in (Const(0), Arg(), Call("g", Const(1)), Call("f", Const(1)), Call("f", Call("g", Arg())),
                     Call("g", Call("g", Call("f", Arg()))), Choose(Call("f", Arg()), (Arg(), Call("g", Arg())))):
            self.assertTrue(self.is_one(other(h=(FREE, body))), body)
        self.assertTrue(self.is_one(other(g=(ZERO, Const(0)), h=(FREE, Arg()), k=(ZERO, Arg()))))

    def test_the_size(self):
        free = Contract.free(3)
        self.assertFalse(self.is_one(Program(3, {name: (free, body) for name, (_, body) in PARTS.items()})))

    def test_the_names(self):
        parts = {name: PARTS[name] for name in "fgh"}
        self.assertFalse(self.is_one(Program(2, parts)))
        self.assertFalse(self.is_one(Program(2, {**parts, "z": PARTS["k"]})))
        self.assertFalse(self.is_one(Program(2, {**PARTS, "z": PARTS["k"]})))
        self.assertFalse(self.is_one(Program(2, {"f": PARTS["f"]})))

    def test_the_order_of_the_names(self):
        for names in ("fgkh", "fkgh", "kfgh"):
            self.assertFalse(self.is_one(Program(2, {name: PARTS[name] for name in names})), names)

    def test_a_contract(self):
        self.assertFalse(self.is_one(other(g=(FREE, PARTS["g"][1]))))
        self.assertFalse(self.is_one(other(k=(Contract.exactly((0, 0)), PARTS["k"][1]))))
        self.assertFalse(self.is_one(other(f=(Contract.exactly((0, 1)), Arg()))))
        self.assertFalse(self.is_one(other(h=(Contract.exactly((0, 0)), PARTS["h"][1]))))

    def test_the_body_of_a_changed_function(self):
        for body in (Choose.table([0, 1]), Const(0), Const(1)):
            self.assertFalse(self.is_one(other(f=(FREE, body))), body)
        same = other(k=(ZERO, Choose.table([0, 0])))
        self.assertTrue(self.is_one(same))
        self.assertFalse(self.is_one(same, {"f": Const(1), "k": Arg()}))
        self.assertFalse(self.is_one(same, {"k": Choose.table([0, 0])}))

    def test_contracts_that_are_not_kept(self):
        broken = other(k=(ZERO, Const(1)))
        self.assertEqual(broken.broken, ("k", 0))
        self.assertFalse(self.is_one(broken))
        self.assertFalse(self.is_one(other(g=(ZERO, Call("f", Const(1))))))

    def test_calls_of_other_functions(self):
        self.assertFalse(self.is_one(other(k=(ZERO, Call("f", Const(0))))))
        self.assertFalse(self.is_one(other(k=(ZERO, Call("h", Call("f", Const(0)))))))
        less = {"a": (FREE, Arg()), "b": (FREE, Arg()), "c": (FREE, Call("b", Arg())), "d": (FREE, Call("c", Arg()))}
        program = Program(2, less)
        # What it uses only through others it does not call.
        for body, expected in ((Call("c", Arg()), True), (Call("b", Arg()), False), (Call("a", Arg()), False),
                               (Call("c", Call("b", Arg())), False), (Arg(), True)):
            rival = Program(2, {**less, "d": (FREE, body)})
            self.assertIs(is_rival(program, {"a": Const(0)}, rival), expected)

    def test_calls_of_changed_functions_do_not_matter(self):
        program = Program(2, {"a": (FREE, Arg()), "b": (FREE, Arg()), "c": (FREE, Call("a", Arg()))})
        change = {"c": Call("b", Arg())}
        self.assertTrue(is_rival(program, change, program))
        self.assertFalse(is_rival(program, change, program.changed(change)))

    def test_the_verdict_does_not_matter(self):
        self.assertFalse(PROGRAM.changed(CHANGE).kept)
        rival = other(g=(ZERO, Const(0)))
        self.assertTrue(rival.changed(CHANGE).kept)
        self.assertTrue(self.is_one(rival))

    def test_the_first_errors(self):
        for program in NO_PROGRAMS:
            self.refuses(BadProgram, is_rival, program, CHANGE, PROGRAM)
            self.refuses(BadProgram, is_rival, program, None, None)
        for change in NO_CHANGES + [{"f": Const(2)}]:
            self.refuses(BadChange, is_rival, support.PROGRAM, change, support.PROGRAM)
            self.refuses(BadChange, is_rival, support.PROGRAM, change, None)

    def test_the_third_argument(self):
        for program in NO_PROGRAMS:
            if not isinstance(program, Program):
                self.refuses(BadProgram, is_rival, PROGRAM, CHANGE, program)

    def test_nothing_is_modified(self):
        change = {"k": Arg(), "f": Const(1)}
        self.assertTrue(self.is_one(PROGRAM, change))
        self.assertEqual(list(change.items()), [("k", Arg()), ("f", Const(1))])


class DifferingTest(Case):
    def test_the_names_in_order(self):
        rival = other(k=(ZERO, Arg()), f=(FREE, Const(0)), h=(FREE, Arg()))
        self.assertEqual(differing(PROGRAM, rival), ["f", "h", "k"])
        self.assertEqual(differing(rival, PROGRAM), ["f", "h", "k"])
        self.assertEqual(differing(PROGRAM, other(g=(ZERO, Const(0)))), ["g"])

    def test_equal_bodies(self):
        self.assertEqual(differing(PROGRAM, Program(2, dict(PARTS))), [])

    def test_a_body_with_the_same_results_is_another(self):
        self.assertEqual(differing(PROGRAM, other(f=(FREE, Choose.table([0, 1])))), ["f"])

    def test_only_bodies_count(self):
        self.assertEqual(differing(PROGRAM, other(g=(FREE, PARTS["g"][1]))), [])
        self.assertEqual(differing(Program(2, {"f": (FREE, Arg()), "g": (FREE, Const(0))}),
                                   Program(3, {"f": (Contract.free(3), Arg()), "g": (Contract.free(3), Const(1))})),
                         ["g"])

    def test_programs_that_do_not_keep_their_contracts(self):
        broken = other(k=(ZERO, Const(1)))
        self.assertEqual([differing(PROGRAM, broken), differing(broken, PROGRAM), differing(broken, broken)],
                         [["k"], ["k"], []])

    def test_the_list_is_new(self):
        rival = other(h=(FREE, Arg()))
        found = differing(PROGRAM, rival)
        self.assertIs(type(found), list)
        found.append("x")
        self.assertEqual(differing(PROGRAM, rival), ["h"])

    def test_errors(self):
        for program in NO_PROGRAMS:
            self.refuses(BadProgram, differing, program, PROGRAM)
            self.refuses(BadProgram, differing, PROGRAM, program)
            if not isinstance(program, Program):
                self.refuses(BadProgram, differing, program, program)
        for names in ("fgkh", "fgh", "f"):
            program = Program(2, {name: PARTS[name] for name in names})
            self.refuses(BadProgram, differing, PROGRAM, program)
            self.refuses(BadProgram, differing, program, PROGRAM)
        self.refuses(BadProgram, differing, PROGRAM, other(z=(FREE, Arg())))


if __name__ == "__main__":
    unittest.main()
