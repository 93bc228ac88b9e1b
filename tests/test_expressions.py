import types
import unittest

from mustread.errors import BadExpression, MustError
from mustread.expressions import Arg, Call, Choose, Const, Expression

NOT_INTEGERS = [True, False, None, "1", "", b"1", [], [1], (1,), (), {}, set(), Arg(), Const(1), object(), int]
NOT_EXPRESSIONS = [None, True, 0, 1, "arg", "", b"", [], (), (Arg(),), [Arg()], {}, object(), Arg, Expression]


def nested(depth):
    """Calls around an argument: depth + 1 nodes."""
    body = Arg()
    for _ in range(depth):
        body = Call("f", body)
    return body


class Case(unittest.TestCase):
    def refuses(self, make, *arguments):
        with self.assertRaises(BadExpression) as caught:
            make(*arguments)
        self.assertIsInstance(caught.exception, MustError)
        self.assertIsInstance(caught.exception, ValueError)


class ExpressionsTest(Case):
    def test_example_of_the_document(self):
        body = Choose(Call('f', Arg()), (Const(1), Call('f', Const(0))))
        self.assertEqual([body.size, body.calls, len(list(body.nodes())), body.value(1, {'f': (1, 0)})],
                         [6, ['f'], 6, 1])

    def test_classes(self):
        for one in (Const(0), Arg(), Call("f", Arg()), Choose.table([0, 1])):
            self.assertIsInstance(one, Expression)
        for made in (Const, Arg, Call, Choose):
            self.assertEqual(made.__bases__, (Expression,))
            self.assertEqual(made.__module__, "mustread.expressions")

    def test_arguments_by_name(self):
        body = Choose(test=Call(name="f", argument=Arg()), cases=(Const(number=0), Arg()))
        self.assertEqual(body.value(argument=1, tables={"f": (0, 1)}), 1)
        self.assertEqual(Choose.table(numbers=[0, 1]), Choose.table((0, 1)))


class ConstTest(Case):
    def test_values(self):
        for number in (0, 1, 2):
            body = Const(number)
            self.assertEqual([body.value(at, {}) for at in (0, 1, 2)], [number] * 3)
            self.assertEqual([body.size, body.calls, list(body.nodes())], [1, [], [body]])

    def test_refused(self):
        for number in [-1, 3, 10 ** 30, -10 ** 30] + NOT_INTEGERS:
            self.refuses(Const, number)


class ArgTest(Case):
    def test_values(self):
        body = Arg()
        self.assertEqual([body.value(at, {}) for at in (0, 1, 2)], [0, 1, 2])
        self.assertEqual([body.size, body.calls, list(body.nodes())], [1, [], [body]])


class CallTest(Case):
    def test_values(self):
        body = Call("g", Call("f", Arg()))
        tables = {"f": (1, 2, 0), "g": (2, 2, 1)}
        self.assertEqual([body.value(at, tables) for at in range(3)], [2, 1, 2])
        self.assertEqual([body.size, body.calls], [3, ["f", "g"]])

    def test_names_of_1_and_8_letters(self):
        for name in ("a", "z", "abcdefgh", "zzzzzzzz"):
            self.assertEqual(Call(name, Arg()).calls, [name])

    def test_refused_names(self):
        names = ["", "abcdefghi", "A", "aB", "a1", "1", "a_", "_", " ", "a ", " a", "a\n", "a-b", "\u00e9", "\u00df",
                 "\u03b1", "\u0131", "\u00aa"]
        for name in names + [None, True, 0, 1, b"f", ["f"], ("f",), {}, {"f": 1}, Arg()]:
            self.refuses(Call, name, Arg())

    def test_refused_arguments(self):
        for argument in NOT_EXPRESSIONS:
            self.refuses(Call, "f", argument)
        self.refuses(Call, "F", 1)


class ChooseTest(Case):
    def test_values(self):
        body = Choose(Arg(), (Call("f", Arg()), Const(0), Arg()))
        self.assertEqual([body.value(at, {"f": (1, 0, 0)}) for at in range(3)], [1, 0, 2])
        self.assertEqual(Choose(Const(1), (Const(0), Arg())).value(0, {}), 0)
        self.assertEqual(Choose(Const(1), (Const(0), Arg())).value(1, {}), 1)

    def test_only_the_chosen_case_is_evaluated(self):
        body = Choose(Arg(), (Const(1), Call("f", Const(2))))
        self.assertEqual(body.value(0, {"f": (0, 0)}), 1)

    def test_nodes_are_in_order(self):
        first, inner, test = Const(0), Const(2), Arg()
        second = Call("b", inner)
        body = Choose(test, (first, second))
        found = list(body.nodes())
        self.assertEqual(len(found), 5)
        for node, expected in zip(found, [body, test, first, second, inner]):
            self.assertIs(node, expected)
        deep = Choose(body, (Arg(), body))
        kinds = [type(node).__name__ for node in deep.nodes()]
        part = ["Choose", "Arg", "Const", "Call", "Const"]
        self.assertEqual(kinds, ["Choose"] + part + ["Arg"] + part)

    def test_nodes_is_a_generator(self):
        self.assertIsInstance(Arg().nodes(), types.GeneratorType)
        self.assertIsInstance(Choose.table([0, 1]).nodes(), types.GeneratorType)

    def test_calls_are_ascending_and_single(self):
        body = Choose(Call("z", Call("b", Arg())), (Call("ab", Arg()), Call("z", Arg()), Call("aa", Arg())))
        self.assertEqual(body.calls, ["aa", "ab", "b", "z"])

    def test_calls_is_a_new_list(self):
        body = Call("f", Arg())
        body.calls.append("g")
        body.calls.clear()
        self.assertEqual(body.calls, ["f"])
        self.assertIsNot(body.calls, body.calls)
        Arg().calls.append("x")
        self.assertEqual(Arg().calls, [])

    def test_refused(self):
        for test in NOT_EXPRESSIONS:
            self.refuses(Choose, test, (Const(0), Const(1)))
        for cases in [[Const(0), Const(1)], (), (Arg(),), (Arg(),) * 4, None, 2, "ab", {}, {Arg: 1, Const: 2}, Arg()]:
            self.refuses(Choose, Arg(), cases)
        for case in NOT_EXPRESSIONS:
            self.refuses(Choose, Arg(), (case, Arg()))
            self.refuses(Choose, Arg(), (Arg(), Arg(), case))

    def test_table(self):
        self.assertEqual(Choose.table([0, 1]), Choose(Arg(), (Const(0), Const(1))))
        self.assertEqual(Choose.table((2, 0, 2)), Choose(Arg(), (Const(2), Const(0), Const(2))))
        self.assertIsInstance(Choose.table([0, 1]), Choose)
        self.assertEqual([Choose.table([2, 0, 1]).value(at, {}) for at in range(3)], [2, 0, 1])

    def test_table_keeps_nothing(self):
        numbers = [0, 1]
        body = Choose.table(numbers)
        self.assertEqual(numbers, [0, 1])
        numbers[0] = 1
        self.assertEqual(body.value(0, {}), 0)

    def test_table_refused(self):
        for numbers in [[], [0], [0, 1, 2, 0], (), (1,), "01", b"01", None, 2, {}, {0: 1, 1: 0}, {0, 1}, range(2),
                        Arg(), [0, True], (False, 1), [0, 3], [-1, 0], [0, None], ["0", "1"], [Const(0), Const(1)]]:
            self.refuses(Choose.table, numbers)


class MostTest(Case):
    def test_most(self):
        self.assertEqual(Expression.MOST, 60)

    def test_calls(self):
        body = nested(59)
        self.assertEqual([body.size, len(list(body.nodes()))], [60, 60])
        self.assertEqual(nested(58).size, 59)
        self.refuses(Call, "f", body)

    def test_choices(self):
        body = Choose(nested(19), (nested(19), nested(18)))
        self.assertEqual([body.size, len(list(body.nodes()))], [60, 60])
        self.refuses(Choose, nested(19), (nested(19), nested(19)))
        self.assertEqual(Choose(Arg(), (Arg(), nested(55), Arg())).size, 60)
        self.refuses(Choose, Arg(), (Arg(), nested(56), Arg()))
        self.refuses(Choose, Arg(), (nested(59), nested(59)))

    def test_a_part_that_occurs_twice_counts_twice(self):
        part = nested(29)
        self.refuses(Choose, part, (part, Arg()))
        self.assertEqual(Choose(Arg(), (part, nested(27))).size, 60)


class EqualityTest(Case):
    def test_equal(self):
        def make():
            return [Const(0), Const(1), Arg(), Call("f", Arg()), Call("g", Arg()), Call("f", Const(0)),
                    Choose.table([0, 1]), Choose.table([1, 0]), Choose.table([0, 1, 0]),
                    Choose(Const(0), (Const(0), Const(1))), Choose(Call("f", Arg()), (Arg(), Arg()))]
        for at, one in enumerate(make()):
            for index, other in enumerate(make()):
                self.assertEqual(one == other, at == index)
                self.assertEqual(one != other, at != index)

    def test_other_kinds(self):
        for one in (Const(0), Arg(), Call("f", Arg()), Choose.table([0, 1])):
            for other in (0, False, None, "arg", "f", ("f", Arg()), [], object(), Arg):
                self.assertFalse(one == other)
                self.assertTrue(one != other)

    def test_properties_cannot_be_assigned(self):
        body = Call("f", Arg())
        for name in ("size", "calls"):
            with self.assertRaises(AttributeError):
                setattr(body, name, 1)


if __name__ == "__main__":
    unittest.main()
