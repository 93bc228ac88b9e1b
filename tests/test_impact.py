import types
import unittest

import reference
from mustread import impact as module
from mustread.errors import BadChange, BadName, BadProgram, TooLarge
from mustread.expressions import Arg, Call, Choose, Const
from mustread.impact import culprit, harmless, impact, trail
from mustread.programs import Contract, Program
from mustread.reading import must_read
from support import CHANGE, FREE, FREE3, NO_CHANGES, NO_NAMES, NO_PROGRAMS, NONE, PROGRAM, Case

NOT = Choose.table([1, 0])


def calling(body, size=2, **others):
    """A program in which p, q and r return their argument, and g has a body; others stand behind g."""
    free = Contract.free(size)
    parts = {name: (free, Arg()) for name in "pqr"}
    return Program(size, {**parts, "g": (free, body), **{name: (free, other) for name, other in others.items()}})


def turned(*names):
    return {name: NOT for name in names}


class ExampleTest(Case):
    def test_examples_of_the_document(self):
        program = Program(2, {'f': (Contract.free(2), Arg()), 'g': (Contract(((0,), (0, 1))), Call('f', Const(0)))})
        self.assertEqual(impact(program, {'f': Const(1)}), [('f', 0, 0, 1), ('g', 0, 0, 1), ('g', 1, 0, 1)])
        self.assertEqual(list(trail(program, {'f': Const(1)}, 'g', 1)), [('g', 1), ('f', 0)])

    def test_defined_here(self):
        for function in (impact, trail, culprit, harmless):
            self.assertEqual(function.__module__, module.__name__)


class ImpactTest(Case):
    def test_all_places_in_order(self):
        program = calling(Call("p", Call("q", Arg())), h=Call("g", Const(1)), i=Call("p", Arg()))
        self.assertEqual(impact(program, turned("q")),
                         [("q", 0, 0, 1), ("q", 1, 1, 0), ("g", 0, 0, 1), ("g", 1, 1, 0), ("h", 0, 1, 0),
                          ("h", 1, 1, 0)])
        change = {"i": Const(1), "q": Const(0)}
        self.assertEqual(impact(program, change),
                         [("q", 1, 1, 0), ("g", 1, 1, 0), ("h", 0, 1, 0), ("h", 1, 1, 0), ("i", 0, 0, 1)])

    def test_the_order_of_the_program_and_not_of_the_names(self):
        program = Program(2, {name: (FREE, Arg()) for name in "zyx"})
        for names in ("xyz", "zyx", "yxz"):
            self.assertEqual([place[:2] for place in impact(program, turned(*names))],
                             [(name, argument) for name in "zyx" for argument in (0, 1)])

    def test_a_change_without_an_impact(self):
        program = calling(Call("p", Arg()))
        self.assertEqual(impact(program, {"p": Choose.table([0, 1])}), [])
        self.assertEqual(impact(program, {"p": NOT, "g": Call("p", NOT)}), [("p", 0, 0, 1), ("p", 1, 1, 0)])
        program = calling(Call("p", Const(0)), h=Call("g", Arg()))
        self.assertEqual(impact(program, {"p": Const(0)}), [("p", 1, 1, 0)])

    def test_three_values(self):
        program = calling(Call("p", Arg()), 3, h=Choose(Call("g", Arg()), (Const(2), Const(1), Const(1))))
        self.assertEqual(impact(program, {"p": Choose.table([0, 2, 1])}),
                         [("p", 1, 1, 2), ("p", 2, 2, 1), ("g", 1, 1, 2), ("g", 2, 2, 1)])
        self.assertEqual(impact(program, {"p": Choose.table([2, 1, 0])}),
                         [("p", 0, 0, 2), ("p", 2, 2, 0), ("g", 0, 0, 2), ("g", 2, 2, 0), ("h", 0, 2, 1),
                          ("h", 2, 1, 2)])

    def test_changed_programs_that_do_not_keep_their_contracts(self):
        program = Program(2, {"f": (NONE, Const(0)), "g": (NONE, Call("f", Arg()))})
        self.assertEqual(impact(program, {"f": Arg()}), [("f", 1, 0, 1), ("g", 1, 0, 1)])

    def test_kinds_and_new_lists(self):
        program = calling(Call("p", Arg()))
        found = impact(program, turned("p"))
        self.assertEqual([type(found)] + [type(place) for place in found], [list] + [tuple] * 4)
        found.clear()
        self.assertEqual(len(impact(program, turned("p"))), 4)

    def test_samples(self):
        for seed in range(3000, 3300):
            program, change, _ = reference.sample(seed, 6)
            new = reference.with_bodies(program, change)
            expected = []
            for name in program.names:
                for at in range(program.size):
                    old, other = program.results(name)[at], new.results(name)[at]
                    if old != other:
                        expected.append((name, at, old, other))
            self.assertEqual(impact(program, change), expected)

    def test_nothing_is_modified(self):
        program, change = calling(Call("p", Arg())), turned("g", "p")
        for function in (impact, culprit, harmless):
            function(program, change)
        list(trail(program, change, "p", 0))
        self.assertEqual(list(change.items()), [("g", NOT), ("p", NOT)])
        self.assertEqual(program, calling(Call("p", Arg())))


class TrailTest(Case):
    def test_a_changed_function(self):
        program = calling(Call("p", Arg()))
        self.assertEqual(list(trail(program, turned("p"), "p", 0)), [("p", 0)])
        self.assertEqual(list(trail(program, turned("p"), "p", 1)), [("p", 1)])
        # Its old body and its new one call what is changed, too, but the trail ends there.
        change = {"p": NOT, "g": Call("p", Call("q", Arg()))}
        self.assertEqual(list(trail(program, change, "g", 1)), [("g", 1)])

    def test_the_argument_comes_ahead_of_the_call(self):
        program = calling(Call("p", Call("q", Arg())))
        for names, end in (("p", ("p", 1)), ("q", ("q", 1))):
            self.assertEqual(list(trail(program, turned(names), "g", 1)), [("g", 1), end])
        program = calling(Call("p", Call("q", Arg())), h=Call("p", Const(0)), i=Call("h", Call("g", Arg())))
        self.assertEqual(list(trail(program, turned("p"), "i", 1)), [("i", 1), ("g", 1), ("p", 1)])
        self.assertEqual(list(trail(program, {"p": NOT, "q": Const(0)}, "g", 0)), [("g", 0), ("p", 0)])
        self.assertEqual(list(trail(program, {"p": Const(0), "q": Const(0)}, "g", 1)), [("g", 1), ("q", 1)])

    def test_the_test_comes_ahead_of_the_case(self):
        body = Choose(Call("p", Arg()), (Call("q", Arg()), Call("r", Arg())))
        program = calling(body)
        self.assertEqual(list(trail(program, {"p": Const(1), "q": NOT, "r": Const(1)}, "g", 0)), [("g", 0), ("p", 0)])
        self.assertEqual(list(trail(program, turned("q", "r"), "g", 0)), [("g", 0), ("q", 0)])
        self.assertEqual(list(trail(program, turned("q", "r"), "g", 1)), [("g", 1), ("r", 1)])

    def test_only_the_case_that_is_evaluated(self):
        # For 1 the first case would call q for another argument, but the second case is evaluated.
        program = calling(Choose(Arg(), (Call("q", Const(0)), Call("r", Call("q", Arg())))))
        self.assertEqual(list(trail(program, {"q": Choose.table([1, 1]), "r": NOT}, "g", 1)), [("g", 1), ("r", 1)])
        self.assertEqual(list(trail(program, turned("q"), "g", 1)), [("g", 1), ("q", 1)])
        self.assertEqual(list(trail(program, turned("q"), "g", 0)), [("g", 0), ("q", 0)])

    def test_calls_within_a_test_within_an_argument(self):
        test = Choose(Call("p", Const(0)), (Call("q", Const(1)), Call("q", Const(0))))
        program = calling(Call("r", Choose(test, (Call("p", Const(1)), Call("r", Const(0))))))
        self.assertEqual(program.results("g"), (0, 0))
        # p(0), q(1), r(0) and once more r(0) are evaluated, in this order.
        for change, end in (({"r": Const(1)}, ("r", 0)), ({"q": Const(0)}, ("q", 1)),
                            ({"q": Const(0), "r": Const(1)}, ("q", 1)),
                            ({"p": Const(1), "r": Const(1)}, ("p", 0)),
                            ({"p": Const(1), "q": NOT, "r": Const(1)}, ("p", 0)),
                            ({"p": Const(0), "q": Choose.table([0, 1]), "r": Const(1)}, ("r", 0))):
            self.assertEqual(impact(program, change)[-2:], [("g", 0, 0, 1), ("g", 1, 0, 1)])
            self.assertEqual(list(trail(program, change, "g", 1)), [("g", 1), end])

    def test_calls_that_do_not_differ_are_passed_over(self):
        program = calling(Choose(Call("p", Call("p", Const(0))), (Call("q", Call("p", Const(0))), Const(0))))
        self.assertEqual(list(trail(program, {"p": Choose.table([0, 0]), "q": NOT}, "g", 0)), [("g", 0), ("q", 0)])

    def test_several_functions(self):
        program = calling(Call("p", Choose.table([1, 0])), h=Call("g", Call("q", Arg())), i=Call("h", Const(1)))
        self.assertEqual(list(trail(program, turned("p"), "i", 0)), [("i", 0), ("h", 1), ("g", 1), ("p", 0)])
        self.assertEqual(list(trail(program, turned("p"), "i", 1)), [("i", 1), ("h", 1), ("g", 1), ("p", 0)])
        self.assertEqual(list(trail(program, {"p": Const(1), "q": NOT}, "h", 1)), [("h", 1), ("q", 1)])
        self.assertEqual(list(trail(program, {"p": Const(1), "g": Const(1)}, "i", 0)), [("i", 0), ("h", 1), ("g", 1)])

    def test_three_values(self):
        program = calling(Choose(Call("p", Arg()), (Call("q", Const(2)), Call("r", Const(1)), Const(0))), 3)
        change = {"q": Const(0), "r": Choose.table([0, 2, 2])}
        self.assertEqual(list(trail(program, change, "g", 0)), [("g", 0), ("q", 2)])
        self.assertEqual(list(trail(program, change, "g", 1)), [("g", 1), ("r", 1)])
        self.assertEqual(list(trail(program, {"p": Choose.table([0, 1, 1])}, "g", 2)), [("g", 2), ("p", 2)])

    def test_samples(self):
        lengths = set()
        for seed in range(4000, 4400):
            program, change, _ = reference.sample(seed, 6)
            for name, argument, _, _ in impact(program, change):
                found = list(trail(program, change, name, argument))
                self.assertEqual(found, reference.trail(program, change, name, argument))
                self.assertIn(found[-1][0], change)
                self.assertEqual([place[0] in change for place in found].count(True), 1)
                lengths.add(len(found))
        self.assertGreaterEqual(lengths, {1, 2, 3, 4})

    def test_places_are_tuples_of_a_generator(self):
        found = trail(calling(Call("p", Arg())), turned("p"), "g", 0)
        self.assertIsInstance(found, types.GeneratorType)
        self.assertEqual([type(place) for place in found], [tuple, tuple])
        self.assertEqual(list(found), [])

    def test_a_change_that_is_altered_meanwhile(self):
        program, change = calling(Call("p", Arg()), h=Call("g", Arg())), turned("p")
        found = trail(program, change, "h", 0)
        self.assertEqual(next(found), ("h", 0))
        change["g"] = Const(1)
        del change["p"]
        self.assertEqual(list(found), [("g", 0), ("p", 0)])

    def test_not_a_place_of_the_impact(self):
        program = calling(Call("p", Arg()), h=Call("q", Arg()))
        change = {"p": Const(0)}
        self.assertEqual(impact(program, change), [("p", 1, 1, 0), ("g", 1, 1, 0)])
        for name in program.names:
            for argument in (-1, 0, 1, 2, 3):
                if (name, argument) not in (("p", 1), ("g", 1)):
                    self.refuses(BadName, self.first, program, change, name, argument)
        self.assertEqual(self.first(program, change, "g", 1), ("g", 1))

    def test_what_is_no_name_and_what_is_no_argument(self):
        for name in NO_NAMES + [("g", 0)]:
            for argument in (0, 1, None):
                self.refuses(BadName, self.first, PROGRAM, {"f": NOT}, name, argument)
        for argument in (True, False, None, "", "0", "1", b"1", [], [0], (0,), {}, {0}, Arg(), 2, -1, 10 ** 30):
            for name in ("f", "g", "x", None):
                self.refuses(BadName, self.first, PROGRAM, {"f": NOT}, name, argument)
        for argument in (0, 1):
            for name in ("f", "g"):
                self.assertEqual(self.first(PROGRAM, {"f": NOT}, name, argument), (name, argument))

    def test_errors_are_raised_for_the_first_place(self):
        for arguments in ((None, None, None, None), (PROGRAM, {}, "f", 0), (PROGRAM, CHANGE, "f", 0),
                          (PROGRAM, CHANGE, [], True)):
            found = trail(*arguments)
            self.assertIsInstance(found, types.GeneratorType)
            self.assertRaises((BadProgram, BadChange, BadName), next, found)
            self.assertEqual(list(found), [])

    def first(self, *arguments):
        return next(trail(*arguments))


def all_ones(names):
    """An expression that is 1 if all of these functions are 1 for 0."""
    body = Const(1 if names else 0)
    for name in names:
        body = Choose(Call(name, Const(0)), (Const(0), body))
    return body


def summing(contract, *parts):
    """The functions a, b, c and d become 1, and y and z are 1 at one place for each of the parts that becomes 1."""
    first, second, third, fourth = [all_ones(names) for names in [*parts, "", "", ""][:4]]
    return Program(2, {**{name: (FREE, Choose.table([0, 1])) for name in "abcd"},
                       "y": (contract, Choose(Arg(), (first, second))),
                       "z": (contract, Choose(Arg(), (third, fourth)))})


ONES = {name: Const(1) for name in "abcd"}


class PartsTest(Case):
    def test_the_fewest_functions(self):
        for parts, expected in ((["abcd"], "abcd"), (["abc", "bd"], "bd"), (["ab", "c"], "c"), (["bcd"], "bcd"),
                                (["abd", "acd"], "abd"), (["d", "abc"], "d")):
            program = summing(NONE, *parts)
            self.assertEqual(culprit(program, ONES), list(expected))

    def test_the_first_of_several(self):
        for parts, expected in ((["bc", "ad"], "ad"), (["cd", "bd", "bc"], "bc"), (["d", "b"], "b"),
                                (["bcd", "abd", "acd"], "abd")):
            self.assertEqual(culprit(summing(NONE, *parts), ONES), list(expected))

    def test_the_most_functions(self):
        for parts, expected in ((["abcd"], "abc"), (["a"], "bcd"), (["ab", "cd"], "ac"), (["ab", "c"], "ad"),
                                (["bc"], "abd"), (["a", "b"], "cd"), (["a", "b", "c", "d"], ""), (["bd", "cd"], "abc"),
                                (["ab", "ac", "ad"], "bcd"), (["d"], "abc")):
            self.assertEqual(harmless(summing(NONE, *parts), ONES), list(expected))

    def test_all_functions_or_none(self):
        program = summing(FREE, "ab")
        self.assertIsNone(culprit(program, ONES))
        self.assertEqual(harmless(program, ONES), ["a", "b", "c", "d"])
        program = Program(2, {"f": (NONE, Const(0))})
        self.assertEqual([culprit(program, {"f": Const(1)}), harmless(program, {"f": Const(1)})], [["f"], []])
        self.assertEqual([culprit(program, {"f": Choose.table([0, 0])}), harmless(program, {"f": Choose.table([0, 0])})],
                         [None, ["f"]])

    def test_parts_that_heal_one_another(self):
        # Each of a and b breaks the contract of z if it is changed alone.
        body = Choose(Call("a", Const(0)), (Call("b", Const(0)), Choose(Call("b", Const(0)), (Const(1), Const(0)))))
        program = Program(2, {"a": (FREE, Arg()), "b": (FREE, Arg()), "c": (FREE, Arg()), "z": (NONE, body)})
        change = {"b": Const(1), "a": Const(1)}
        self.assertEqual([culprit(program, change), harmless(program, change)], [None, ["a", "b"]])
        change["z"] = Choose(Call("c", Const(0)), (body, Const(1)))
        self.assertEqual([culprit(program, change), harmless(program, change)], [None, ["a", "b", "z"]])
        change["c"] = Const(1)
        self.assertEqual([culprit(program, change), harmless(program, change)], [["a"], ["a", "b", "c"]])

    def test_names_in_the_order_of_the_program(self):
        functions = summing(NONE, "ab", "cd")
        program = Program(2, {name: (functions.contract(name), functions.body(name)) for name in "dcbayz"})
        for order in ("abcd", "dcba", "bdac"):
            change = {name: Const(1) for name in order}
            self.assertEqual([culprit(program, change), harmless(program, change)], [["d", "c"], ["d", "b"]])

    def test_only_changed_functions(self):
        program = summing(NONE, "ab", "cd")
        change = {"b": Const(1), "c": Const(1), "d": Const(1)}
        self.assertEqual([culprit(program, change), harmless(program, change)], [["c", "d"], ["b", "c"]])

    def test_six_functions_and_three_values(self):
        names = "fedcba"
        exact = Contract.exactly((0, 0, 0))
        program = Program(3, {name: (exact, Const(0)) for name in names})
        change = {name: Const(1) for name in names}
        self.assertEqual([culprit(program, change), harmless(program, change)], [["f"], []])
        change = {name: Choose.table([0, 0, 2 if name in "cb" else 0]) for name in names}
        self.assertEqual([culprit(program, change), harmless(program, change)], [["c"], ["f", "e", "d", "a"]])

    def test_samples(self):
        seen = set()
        for seed in range(5000, 5600):
            program, change, source = reference.sample(seed, 6)
            expected = reference.parts(program, change)
            found = (culprit(program, change), harmless(program, change))
            self.assertEqual(found, expected)
            seen.add((None if found[0] is None else len(found[0]), len(found[1]), len(change)))
        for some in ((None, 1, 1), (1, 0, 1), (1, 1, 2), (1, 0, 2), (1, 2, 3), (None, 3, 3)):
            self.assertIn(some, seen)

    def test_new_lists(self):
        program = summing(NONE, "ab")
        for function, expected in ((culprit, ["a", "b"]), (harmless, ["a", "c", "d"])):
            found = function(program, ONES)
            self.assertIs(type(found), list)
            found.append("x")
            self.assertEqual(function(program, ONES), expected)


class ErrorsTest(Case):
    def test_bad_program(self):
        for program in NO_PROGRAMS:
            for change in (CHANGE, None, {}):
                for function in (impact, culprit, harmless):
                    self.refuses(BadProgram, function, program, change)
                for name in ("f", None):
                    self.refuses(BadProgram, lambda *given: next(trail(*given)), program, change, name, 0)

    def test_bad_change(self):
        for change in NO_CHANGES:
            for function in (impact, culprit, harmless):
                self.refuses(BadChange, function, PROGRAM, change)
            for name in ("f", None):
                self.refuses(BadChange, lambda *given: next(trail(*given)), PROGRAM, change, name, 0)

    def test_there_is_no_limit_of_cases(self):
        program = Program(3, {**{name: (FREE3, Arg()) for name in "abcf"}, "g": (FREE3, Call("f", Arg()))})
        self.refuses(TooLarge, must_read, program, CHANGE)
        self.assertEqual(impact(program, CHANGE), [("f", 1, 1, 0), ("f", 2, 2, 0), ("g", 1, 1, 0), ("g", 2, 2, 0)])
        self.assertEqual(list(trail(program, CHANGE, "g", 2)), [("g", 2), ("f", 2)])
        self.assertEqual([culprit(program, CHANGE), harmless(program, CHANGE)], [None, ["f"]])

    def test_a_body_for_another_size(self):
        program = Program(3, {"f": (FREE3, Arg())})
        for body in (Choose.table([0, 1]), Call("f", Arg()), Arg()):
            for function in (impact, culprit, harmless):
                self.refuses(BadChange, function, program, {"f": body})
        self.assertEqual(impact(program, {"f": Const(2)}), [("f", 0, 0, 2), ("f", 1, 1, 2)])
        self.refuses(BadChange, impact, PROGRAM, {"f": Const(2)})


if __name__ == "__main__":
    unittest.main()
