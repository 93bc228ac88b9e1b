"""Point [6]: the possible results, seen directly; test_derivations.py sees them through the trees."""

import unittest

import reference
from mustread.cases import NEW, OLD, SETTLED, Knowledge, assume, possible_values
from mustread.expressions import Arg, Call, Choose, Const
from mustread.programs import Contract, Program
from support import FREE, FREE3


def states(program, change, chosen, *assumed):
    knowledge = Knowledge(program, change, chosen)
    case = knowledge.free_case()
    for word, name, argument, value in assumed:
        case = assume(case, word, name, argument, value)
    return knowledge.possible(case)


class ExpressionTest(unittest.TestCase):
    def test_constants_and_the_argument(self):
        self.assertEqual([possible_values(Const(2), at, {}) for at in range(3)], [(2,), (2,), (2,)])
        self.assertEqual([possible_values(Arg(), at, {}) for at in range(3)], [(0,), (1,), (2,)])

    def test_a_call_has_all_results_for_all_arguments(self):
        tables = {"f": ((0, 1), (2,), ()), "g": ((0,), (1, 2), (1,))}
        cases = [(Call("f", Const(0)), (0, 1)), (Call("f", Const(2)), ()), (Call("f", Call("f", Const(0))), (0, 1, 2)),
                 (Call("g", Call("f", Const(0))), (0, 1, 2)), (Call("g", Call("f", Const(1))), (1,)),
                 (Call("f", Call("g", Const(1))), (2,)), (Call("f", Call("f", Const(2))), ())]
        for body, expected in cases:
            self.assertEqual(possible_values(body, 0, tables), expected, (body.name, body.argument))

    def test_a_choice_has_all_values_of_all_cases_that_can_be_chosen(self):
        tables = {"f": ((0, 2), (1,), ()), "g": ((1, 2), (2,), (0, 1))}
        cases = (Const(1), Const(0), Call("g", Const(0)))
        for test, expected in ((Call("f", Const(0)), (1, 2)), (Call("f", Const(1)), (0,)), (Call("f", Const(2)), ()),
                               (Call("g", Const(2)), (0, 1)), (Const(2), (1, 2)), (Arg(), (1,))):
            self.assertEqual(possible_values(Choose(test, cases), 0, tables), expected)

    def test_two_calls_are_not_compared(self):
        # The same call twice has the same result, but the cases do not know that.
        body = Choose(Call("f", Arg()), (Call("f", Arg()), Const(0)))
        self.assertEqual(possible_values(body, 0, {"f": ((0, 1), (0, 1))}), (0, 1))


class UnreadTest(unittest.TestCase):
    PROGRAM = Program(3, {"a": (Contract(((0, 1), (1,), (0, 2))), Arg()), "f": (FREE3, Arg()),
                          "u": (Contract(((0,), (1, 2), (0, 1, 2))), Call("f", Arg()))})
    CHANGE = {"f": Const(1)}

    def test_without_assumptions(self):
        found = states(self.PROGRAM, self.CHANGE, [])
        self.assertEqual(found["a"], (((0, 1), (1,), (0, 2)), ((0, 1), (1,), (0, 2)), True))
        self.assertEqual(found["u"], (((0,), (1, 2), (0, 1, 2)), ((0, 1, 2),) * 3, False))

    def test_with_assumptions(self):
        found = states(self.PROGRAM, self.CHANGE, [], ("old", "u", 1, 2), ("new", "u", 2, 0), ("old", "a", 2, 0))
        self.assertEqual(found["a"], (((0, 1), (1,), (0,)), ((0, 1), (1,), (0,)), True))
        self.assertEqual(found["u"], (((0,), (2,), (0, 1, 2)), ((0, 1, 2), (0, 1, 2), (0,)), False))

    def test_settled_callees_make_the_new_results_the_old_ones(self):
        # f has the same results as before, so what was assumed of the new results of u does not count.
        for new in ([], [("new", "u", 1, 0)]):
            found = states(self.PROGRAM, {"f": Choose.table([0, 1, 2])}, [], *new)
            self.assertEqual(found["f"], (((0,), (1,), (2,)), ((0,), (1,), (2,)), True))
            self.assertEqual(found["u"], (((0,), (1, 2), (0, 1, 2)),) * 2 + (True,))

    def test_settled_by_assumptions(self):
        program = Program(2, {"f": (FREE, Arg()), "u": (FREE, Call("f", Arg())), "v": (FREE, Call("u", Arg()))})
        same = [("old", "u", 0, 1), ("new", "u", 0, 1), ("old", "u", 1, 0), ("new", "u", 1, 0)]
        for many in range(4):
            found = states(program, {"f": Const(1)}, [], *same[:many])
            self.assertEqual([found["u"][SETTLED], found["v"][SETTLED], found["v"][NEW]], [False, False, ((0, 1),) * 2])
        found = states(program, {"f": Const(1)}, [], *same)
        self.assertEqual(found["u"], (((1,), (0,)), ((1,), (0,)), True))
        self.assertEqual(found["v"], (((0, 1), (0, 1)), ((0, 1), (0, 1)), True))
        found = states(program, {"f": Const(1)}, [], *same[:3], ("new", "u", 1, 1))
        self.assertEqual([found["u"][SETTLED], found["v"][SETTLED]], [False, False])
        found = states(program, {"f": Const(1)}, [], *same, ("old", "v", 0, 1))
        self.assertEqual(found["v"], (((1,), (0, 1)), ((1,), (0, 1)), True))

    def test_each_of_the_called_functions_counts(self):
        program = Program(2, {"f": (FREE, Arg()), "a": (FREE, Arg()), "u": (FREE, Call("a", Call("f", Arg())))})
        self.assertFalse(states(program, {"f": Const(1)}, [])["u"][SETTLED])
        self.assertTrue(states(program, {"f": Choose.table([0, 1])}, [])["u"][SETTLED])


class ReadTest(unittest.TestCase):
    def test_a_changed_function(self):
        program = Program(2, {"u": (FREE, Arg()), "f": (Contract(((0,), (0, 1))), Call("u", Arg()))})
        found = states(program, {"f": Choose(Call("u", Const(0)), (Const(1), Arg()))}, [])
        self.assertEqual(found["f"], (((0,), (0, 1)), ((0, 1), (1,)), False))
        found = states(program, {"f": Choose(Call("u", Const(0)), (Const(1), Arg()))}, [], ("old", "u", 0, 1))
        self.assertEqual(found["f"], (((), (0, 1)), ((0,), (1,)), False))

    def test_a_changed_function_can_be_settled_only_by_its_results(self):
        program = Program(2, {"a": (FREE, Arg()), "f": (FREE, Call("a", Arg())), "k": (FREE, Call("f", Arg()))})
        change = {"f": Choose(Const(0), (Call("a", Arg()), Arg()))}
        found = states(program, change, [])
        self.assertEqual([found["f"][OLD], found["f"][NEW]], [((0, 1), (0, 1)), ((0, 1), (0, 1))])
        self.assertEqual([found[name][SETTLED] for name in "afk"], [True, False, False])
        found = states(program, change, [], ("old", "a", 0, 1), ("old", "a", 1, 1))
        self.assertEqual(found["f"], (((1,), (1,)), ((1,), (1,)), True))
        self.assertEqual([found[name][SETTLED] for name in "afk"], [True, True, True])

    def test_new_bodies_call_other_functions(self):
        program = Program(2, {"a": (FREE, Arg()), "b": (FREE, Arg()), "f": (FREE, Call("a", Const(0)))})
        found = states(program, {"f": Call("b", Const(1))}, [], ("old", "a", 0, 0), ("old", "b", 1, 1))
        self.assertEqual(found["f"], (((0,), (0,)), ((1,), (1,)), False))

    def test_a_function_of_the_set(self):
        program = Program(2, {"f": (FREE, Arg()), "u": (FREE, Call("f", Arg())),
                              "g": (Contract(((0,), (0, 1))), Call("u", Const(0)))})
        change = {"f": Const(1)}
        found = states(program, change, ["g"])
        self.assertEqual(found["g"], (((0,), (0, 1)), ((0, 1), (0, 1)), False))
        # The new results are not held to the contract.
        found = states(program, change, ["g"], ("old", "u", 0, 0), ("new", "u", 0, 1))
        self.assertEqual(found["g"], (((0,), (0,)), ((1,), (1,)), False))
        found = states(program, change, ["u", "g"])
        self.assertEqual(found["u"], (((0,), (1,)), ((1,), (1,)), False))
        self.assertEqual(found["g"], (((0,), (0,)), ((1,), (1,)), False))

    def test_a_function_of_the_set_that_calls_settled_ones(self):
        program = Program(2, {"u": (FREE, Arg()), "g": (Contract(((0,), (0, 1))), Call("u", Arg())), "f": (FREE, Arg())})
        found = states(program, {"f": Const(1)}, ["g"])
        # The new results are the old ones, as far as these are allowed.
        self.assertEqual(found["g"], (((0,), (0, 1)), ((0,), (0, 1)), True))

    def test_no_possible_old_result(self):
        program = Program(2, {"u": (FREE, Arg()), "g": (Contract(((0,), (0, 1))), Call("u", Const(0))),
                              "f": (FREE, Call("g", Arg()))})
        found = states(program, {"f": Arg()}, ["g"], ("old", "u", 0, 1))
        self.assertEqual(found["g"], (((), (1,)), ((), (1,)), True))
        self.assertEqual(found["f"], (((), (1,)), ((0,), (1,)), False))
        found = states(program, {"f": Choose(Call("g", Arg()), (Const(0), Const(1)))}, ["g"], ("old", "u", 0, 1))
        self.assertEqual(found["f"], (((), (1,)), ((), (1,)), False))


class SampleTest(unittest.TestCase):
    def test_as_the_document_says(self):
        for seed in range(300):
            program, change, source = reference.sample(seed, 6)
            chosen = [name for name in reference.unchanged(program, change) if source.random() < 0.3]
            knowledge = Knowledge(program, change, chosen)
            case, assumed = knowledge.free_case(), {}
            for name in knowledge.unread:
                for argument, row in enumerate(program.contract(name).rows):
                    for word, told in (("old", row), ("new", range(program.size))):
                        if source.random() < 0.5:
                            value = source.choice(told)
                            case = assume(case, word, name, argument, value)
                            assumed[word, name, argument] = value
            found = knowledge.possible(case)
            expected = reference.Possible(program, change, chosen, assumed)
            for name in program.names:
                for at in range(program.size):
                    self.assertEqual(found[name][OLD][at], tuple(sorted(expected.old[name, at])))
                    self.assertEqual(found[name][NEW][at], tuple(sorted(expected.new[name, at])))
                self.assertIs(found[name][SETTLED], name in expected.settled)


if __name__ == "__main__":
    unittest.main()
