import types
import unittest
from itertools import combinations, product

from mustread.errors import BadChange, BadContract, BadName, BadProgram, MustError
from mustread.expressions import Arg, Call, Choose, Const
from mustread.programs import Contract, Program

FREE = Contract.free(2)
OTHERS = [True, False, None, "", "ab", b"ab", [], {}, object(), Arg(), int]


def example():
    return Program(2, {'f': (Contract.free(2), Arg()), 'g': (Contract(((0,), (0, 1))), Call('f', Const(0)))})


class Case(unittest.TestCase):
    def refuses(self, error, make, *arguments):
        with self.assertRaises(error) as caught:
            make(*arguments)
        self.assertIs(type(caught.exception), error)
        self.assertIsInstance(caught.exception, MustError)
        return caught.exception


class ContractTest(Case):
    def test_all_contracts(self):
        for size in (2, 3):
            rows = [row for many in range(1, size + 1) for row in combinations(range(size), many)]
            for chosen in product(rows, repeat=size):
                contract = Contract(chosen)
                self.assertEqual([contract.size, contract.rows], [size, chosen])

    def test_kinds_of_the_properties(self):
        rows = Contract(((0,), (0, 1))).rows
        self.assertIs(type(rows), tuple)
        self.assertTrue(all(type(row) is tuple for row in rows))
        for name in ("size", "rows"):
            with self.assertRaises(AttributeError):
                setattr(Contract.free(2), name, 2)

    def test_free(self):
        self.assertEqual(Contract.free(2).rows, ((0, 1), (0, 1)))
        self.assertEqual(Contract.free(size=3).rows, ((0, 1, 2),) * 3)

    def test_free_refused(self):
        for size in [0, 1, 4, -2, 10 ** 20, (), (2,), [2], "2"] + OTHERS:
            self.refuses(BadContract, Contract.free, size)

    def test_exactly(self):
        self.assertEqual(Contract.exactly((1, 0)).rows, ((1,), (0,)))
        self.assertEqual(Contract.exactly(results=(2, 2, 0)).rows, ((2,), (2,), (0,)))

    def test_exactly_refused(self):
        for results in [(), (0,), (0, 2), (0, 1, 3), (-1, 0), (0, 0, 0, 0), [0, 1], (0, True), (False, 0), (0, None),
                        ((0,), (1,)), ("0", "1"), (0, [1]), 2, {0: 0, 1: 1}, range(2)] + OTHERS:
            self.refuses(BadContract, Contract.exactly, results)

    def test_refused_rows(self):
        for row in [(), (1, 0), (0, 0), (0, 1, 1), (2,), (0, 2), (-1,), (-1, 0), [0], [0, 1], (True,), (0, True),
                    (False, 1), (None,), ("0",), ((0,),), 0, None, "01", {}, {0: 1}, range(2), Const(0)]:
            self.refuses(BadContract, Contract, (row, (0, 1)))
            self.refuses(BadContract, Contract, ((0,), row))
        for row in [(0, 2, 1), (0, 1, 2, 3), (3,), (0, 1, 2, 2), (2, 1, 0)]:
            self.refuses(BadContract, Contract, ((0,), (0,), row))

    def test_refused_numbers_of_rows(self):
        for many in (0, 1, 4, 5):
            self.refuses(BadContract, Contract, ((0,),) * many)

    def test_refused_kinds(self):
        for rows in [[(0,), (1,)], {0: (0,), 1: (1,)}, 2, FREE, "01"] + OTHERS:
            self.refuses(BadContract, Contract, rows)

    def test_equality(self):
        self.assertEqual(Contract(((0,), (0, 1))), Contract(((0,), (0, 1))))
        self.assertEqual(Contract.exactly((1, 0)), Contract(((1,), (0,))))
        self.assertNotEqual(Contract(((0,), (0, 1))), Contract(((0, 1), (0,))))
        self.assertNotEqual(Contract.free(2), Contract.free(3))
        for other in [((0, 1), (0, 1))] + OTHERS:
            self.assertFalse(FREE == other)
            self.assertTrue(FREE != other)


class ProgramTest(Case):
    def test_example_of_the_document(self):
        program = example()
        self.assertEqual([program.kept, program.results('g'), program.changed({'f': Const(1)}).broken],
                         [True, (0, 0), ('g', 0)])

    def test_parts(self):
        program = example()
        self.assertEqual([program.size, program.names], [2, ["f", "g"]])
        self.assertEqual([program.contract("f"), program.contract("g")], [FREE, Contract(((0,), (0, 1)))])
        self.assertEqual([program.body("f"), program.body("g")], [Arg(), Call("f", Const(0))])
        self.assertEqual(program.results("f"), (0, 1))
        self.assertIs(type(program.results("f")), tuple)
        for name in ("size", "names", "kept", "broken"):
            with self.assertRaises(AttributeError):
                setattr(program, name, None)

    def test_results_use_earlier_results(self):
        free = Contract.free(3)
        program = Program(3, {
            "b": (free, Choose.table([1, 2, 0])),
            "a": (free, Call("b", Call("b", Arg()))),
            "c": (free, Choose(Call("a", Arg()), (Const(2), Call("b", Const(0)), Arg())))})
        self.assertEqual(program.names, ["b", "a", "c"])
        self.assertEqual([program.results(name) for name in "bac"], [(1, 2, 0), (2, 0, 1), (0, 2, 1)])

    def test_names_is_a_new_list(self):
        program = example()
        program.names.append("x")
        program.names.clear()
        self.assertEqual(program.names, ["f", "g"])

    def test_places(self):
        program = example()
        self.assertIsInstance(program.places(), types.GeneratorType)
        places = list(program.places())
        self.assertEqual(places, [("f", 0, 0), ("f", 1, 1), ("g", 0, 0), ("g", 1, 0)])
        self.assertTrue(all(type(place) is tuple for place in places))
        free = Contract.free(3)
        program = Program(3, {"z": (free, Const(2)), "a": (free, Arg())})
        self.assertEqual(list(program.places()),
                         [("z", 0, 2), ("z", 1, 2), ("z", 2, 2), ("a", 0, 0), ("a", 1, 1), ("a", 2, 2)])

    def test_broken_is_the_first_place(self):
        exact = Contract.exactly((0, 0))
        cases = [([Const(0), Const(0)], None), ([Arg(), Const(1)], ("z", 1)), ([Const(0), Const(1)], ("a", 0)),
                 ([Const(1), Const(1)], ("z", 0)), ([Const(0), Arg()], ("a", 1))]
        for (first, second), place in cases:
            program = Program(2, {"z": (exact, first), "a": (exact, second)})
            self.assertEqual([program.kept, program.broken], [place is None, place])
            self.assertIs(type(program.kept), bool)
            if place is not None:
                self.assertIs(type(program.broken), tuple)

    def test_a_row_is_for_its_own_argument(self):
        program = Program(2, {"f": (Contract(((0,), (1,))), Arg())})
        self.assertTrue(program.kept)
        program = Program(2, {"f": (Contract(((1,), (0,))), Arg())})
        self.assertEqual(program.broken, ("f", 0))

    def test_bad_names(self):
        program = example()
        for ask in (program.contract, program.body, program.results):
            for name in ["h", "F", "ff", 0, 1, ("f",), ["f"], {"f": 1}, {"f"}, 10 ** 20] + OTHERS:
                self.refuses(BadName, ask, name)

    def test_what_was_passed_is_not_kept(self):
        functions = {"f": (FREE, Arg()), "g": (FREE, Call("f", Arg()))}
        program = Program(2, functions)
        self.assertEqual(list(functions), ["f", "g"])
        functions["f"] = (FREE, Const(0))
        del functions["g"]
        self.assertEqual(program, Program(2, {"f": (FREE, Arg()), "g": (FREE, Call("f", Arg()))}))
        self.assertEqual([program.names, program.results("g")], [["f", "g"], (0, 1)])

    def test_equality(self):
        first, second = (FREE, Arg()), (Contract.exactly((0, 0)), Const(0))
        program = Program(2, {"f": first, "g": second})
        self.assertTrue(program == Program(2, {"f": (Contract.free(2), Arg()), "g": second}))
        self.assertFalse(program != Program(2, {"f": first, "g": second}))
        free = Contract.free(3)
        for other in [Program(2, {"g": second, "f": first}), Program(2, {"f": first}), Program(2, {"f": second, "g": first}),
                      Program(2, {"f": first, "h": second}), Program(2, {"f": first, "g": (FREE, Const(0))}),
                      Program(2, {"f": (FREE, Choose.table([0, 1])), "g": second}),
                      Program(3, {"f": (free, Arg()), "g": (free, Const(0))}),
                      {"f": first, "g": second}, "f"] + OTHERS:
            self.assertFalse(program == other)
            self.assertTrue(program != other)


class BadProgramTest(Case):
    def part(self, size, functions):
        return self.refuses(BadProgram, Program, size, functions).part

    def test_size(self):
        for size in [0, 1, 4, -2, 10 ** 20, (2,), "2", [2], FREE] + OTHERS:
            self.assertIsNone(self.part(size, {"f": (FREE, Arg())}))
            self.assertIsNone(self.part(size, {"F": 1}))
            self.assertIsNone(self.part(size, None))

    def test_number_of_functions(self):
        for many in range(1, 7):
            functions = {name: (FREE, Arg()) for name in "abcdef"[:many]}
            self.assertEqual(len(Program(2, functions).names), many)
        self.assertIsNone(self.part(2, {}))
        self.assertIsNone(self.part(2, {name: (FREE, Arg()) for name in "abcdefg"}))
        self.assertIsNone(self.part(2, {name: 1 for name in "ABCDEFG"}))

    def test_functions_of_other_kinds(self):
        for functions in [[("f", (FREE, Arg()))], (("f", (FREE, Arg())),), 1, {"f"}, FREE] + OTHERS:
            if functions != {}:
                self.assertIsNone(self.part(2, functions))

    def test_keys(self):
        for key in ["", "F", "abcdefghi", "f1", "f ", "\u00e9", 0, 1, True, None, ("f",), b"f", 10 ** 20]:
            self.assertEqual(self.part(2, {"a": (FREE, Arg()), key: (FREE, Arg()), "b": 5}), key)
        for key in ("a", "z", "abcdefgh"):
            self.assertEqual(Program(2, {key: (FREE, Arg())}).names, [key])

    def test_values_that_are_not_pairs(self):
        for pair in [[FREE, Arg()], (FREE,), (), (FREE, Arg(), Arg()), (Arg(), FREE), FREE, Arg(), None, 1, "fg", {},
                     {FREE.size: FREE, 1: Arg()}, (FREE, None), (None, Arg()), (FREE, FREE), (Arg(), Arg()),
                     (FREE.rows, Arg()), (FREE, 0), (FREE, "arg"), (FREE, Arg), (Contract, Arg())]:
            self.assertEqual(self.part(2, {"a": (FREE, Arg()), "b": pair, "c": 5}), "b")

    def test_contracts_of_another_size(self):
        self.assertEqual(self.part(2, {"a": (Contract.free(3), Arg())}), "a")
        self.assertEqual(self.part(3, {"a": (Contract.free(3), Arg()), "b": (FREE, Arg())}), "b")

    def test_constants(self):
        deep = Choose(Arg(), (Arg(), Call("a", Const(2))))
        for body in (Const(2), Call("a", Const(2)), Choose.table([0, 2]), Choose(Const(2), (Arg(), Arg())), deep):
            self.assertEqual(self.part(2, {"a": (FREE, Arg()), "b": (FREE, body)}), "b")
        free = Contract.free(3)
        self.assertEqual(Program(3, {"a": (free, Const(2))}).results("a"), (2, 2, 2))

    def test_choices(self):
        three = Choose.table([0, 1, 0])
        for body in (three, Call("a", three), Choose(three, (Arg(), Arg())), Choose(Arg(), (Arg(), three))):
            self.assertEqual(self.part(2, {"a": (FREE, Arg()), "b": (FREE, body)}), "b")
        free = Contract.free(3)
        self.assertEqual(self.part(3, {"a": (free, Arg()), "b": (free, Choose.table([0, 1]))}), "b")

    def test_calls(self):
        for name in ("b", "c", "d"):
            for body in (Call(name, Arg()), Call("a", Call(name, Arg())), Choose(Arg(), (Arg(), Call(name, Arg())))):
                functions = {"a": (FREE, Arg()), "b": (FREE, body), "c": (FREE, Arg())}
                self.assertEqual(self.part(2, functions), "b")
        self.assertEqual(self.part(2, {"a": (FREE, Call("a", Arg()))}), "a")

    def test_the_first_name_in_order(self):
        self.assertEqual(self.part(2, {"z": (FREE, Const(2)), "A": 1, "b": None}), "z")
        self.assertEqual(self.part(2, {"z": (FREE, Arg()), "A": 1, "b": None}), "A")
        self.assertEqual(self.part(2, {"z": (FREE, Arg()), "a": (FREE, Call("b", Arg())), "b": None}), "a")


class ChangedTest(Case):
    def test_changed(self):
        program = example()
        changed = program.changed({"f": Const(1)})
        self.assertEqual(changed, Program(2, {"f": (FREE, Const(1)),
                                              "g": (Contract(((0,), (0, 1))), Call("f", Const(0)))}))
        self.assertEqual([changed.kept, changed.broken, changed.results("g")], [False, ("g", 0), (1, 1)])
        self.assertEqual(program, example())

    def test_the_order_of_a_change_is_free(self):
        program = example()
        for change in ({"g": Call("f", Arg()), "f": Const(0)}, {"f": Const(0), "g": Call("f", Arg())}):
            changed = program.changed(change)
            self.assertEqual([changed.names, changed.results("g")], [["f", "g"], (0, 0)])

    def test_the_program_need_not_keep_its_contracts(self):
        program = Program(2, {"f": (Contract.exactly((0, 0)), Const(1))})
        self.assertFalse(program.kept)
        self.assertTrue(program.changed({"f": Const(0)}).kept)
        self.assertEqual(program.changed({"f": Arg()}).broken, ("f", 1))

    def test_other_body_with_the_same_results(self):
        program = example()
        changed = program.changed({"f": Choose.table([0, 1])})
        self.assertEqual(changed.results("f"), program.results("f"))
        self.assertNotEqual(changed, program)

    def test_new_calls(self):
        program = Program(2, {"a": (FREE, Const(1)), "b": (FREE, Arg()), "c": (FREE, Arg())})
        changed = program.changed({"c": Call("a", Call("b", Arg()))})
        self.assertEqual(changed.results("c"), (1, 1))

    def test_what_was_passed_is_not_kept(self):
        change = {"f": Const(1)}
        changed = example().changed(change)
        self.assertEqual(list(change.items()), [("f", Const(1))])
        change["f"] = Const(0)
        change["g"] = Const(0)
        self.assertEqual([changed.body("f"), changed.body("g")], [Const(1), Call("f", Const(0))])

    def test_refused_kinds(self):
        for change in [{}, [("f", Const(1))], (), ("f", Const(1)), {"f"}, 1, example(), Const(1)] + OTHERS:
            self.refuses(BadChange, example().changed, change)

    def test_refused_keys(self):
        for key in ["h", "F", "", "ff", 0, True, None, ("f",), b"f", 10 ** 20]:
            self.refuses(BadChange, example().changed, {key: Const(1)})
            self.refuses(BadChange, example().changed, {"f": Const(1), key: Const(1)})

    def test_refused_values(self):
        for value in [None, 0, 1, "arg", (FREE, Const(1)), [Const(1)], (Const(1),), {}, FREE, Const]:
            self.refuses(BadChange, example().changed, {"f": value})
            self.refuses(BadChange, example().changed, {"g": Const(1), "f": value})

    def test_refused_bodies(self):
        three = Choose.table([0, 1, 0])
        for body in [Const(2), three, Call("f", Arg()), Call("g", Arg()), Call("h", Arg()), Choose.table([2, 0])]:
            self.refuses(BadChange, example().changed, {"f": body})
        for body in [Call("g", Arg()), Call("h", Arg()), Call("f", Call("g", Arg())), Call("f", Const(2))]:
            self.refuses(BadChange, example().changed, {"g": body})

    def test_refused_equal_bodies(self):
        self.refuses(BadChange, example().changed, {"f": Arg()})
        self.refuses(BadChange, example().changed, {"g": Call("f", Const(0))})
        self.refuses(BadChange, example().changed, {"f": Const(1), "g": Call("f", Const(0))})


if __name__ == "__main__":
    unittest.main()
