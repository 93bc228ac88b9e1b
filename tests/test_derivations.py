import unittest

import reference
from mustread import derivations
from mustread.derivations import derives
from mustread.errors import BadChange, BadChoice, BadProgram, BadTree
from mustread.expressions import Arg, Call, Choose, Const
from mustread.programs import Contract, Program
from support import (CHANGE, FREE, FREE3, KEPT, NO_CHANGES, NO_CHOICES, NO_PROGRAMS, NONE, PROGRAM, VOID, ZERO, Case)


class TreeCase(Case):
    def holds(self, program, change, chosen, tree):
        answer = derives(program, change, chosen, tree)
        self.assertIs(type(answer), bool)
        self.assertIs(answer, reference.correct(program, change, chosen, tree, {}))
        return answer


def guarded(verdict):
    """The change keeps all contracts if u(0) is 0 (or else if it is 1), and a read function asks for u(0) = 0."""
    program = Program(2, {"u": (FREE, Arg()), "r": (ZERO, Call("u", Const(0))), "f": (NONE, Const(0))})
    new = (Const(0), Const(1)) if verdict else (Const(1), Const(0))
    return program, {"f": Choose(Call("u", Const(0)), new)}


class LeafTest(TreeCase):
    def test_defined_here(self):
        self.assertEqual(derives.__module__, derivations.__name__)

    def test_void(self):
        for verdict in (True, False):
            program, change = guarded(verdict)
            self.assertEqual(program.changed(change).kept, verdict)
            for chosen in ([], ["r"], ["u"], ["u", "r"]):
                self.assertFalse(self.holds(program, change, chosen, VOID))
            good = KEPT if verdict else ("broken", "f", 0)
            self.assertTrue(self.holds(program, change, ["r"], ("old", "u", 0, (good, VOID))))
            self.assertFalse(self.holds(program, change, ["r"], ("old", "u", 0, (VOID, VOID))))
            self.assertFalse(self.holds(program, change, [], ("old", "u", 0, (good, VOID))))

    def test_void_by_a_changed_function(self):
        program = Program(2, {"u": (FREE, Arg()), "f": (ZERO, Call("u", Const(0)))})
        self.assertTrue(self.holds(program, {"f": Const(1)}, [], ("old", "u", 0, (("broken", "f", 0), VOID))))
        self.assertTrue(self.holds(program, {"f": Const(0)}, [], ("old", "u", 0, (KEPT, VOID))))
        self.assertTrue(self.holds(program, {"f": Arg()}, [], KEPT))

    def test_kept(self):
        program = Program(2, {"f": (ZERO, Const(0)), "g": (FREE, Call("f", Arg()))})
        for body, expected in ((Arg(), True), (Choose.table([0, 0]), True), (Const(1), False),
                               (Choose.table([1, 0]), False)):
            self.assertIs(self.holds(program, {"f": body}, [], KEPT), expected)

    def test_kept_looks_at_each_function_and_argument(self):
        for at in (0, 1):
            contract = Contract(((0,), (0, 1)) if at == 0 else ((0, 1), (0,)))
            for name in "gu":
                parts = {"f": (FREE, Arg()), "g": (FREE, Const(0)), "u": (FREE, Call("f", Arg()))}
                parts[name] = (contract, Const(0) if name == "g" else Call("f", Const(0)))
                program = Program(2, parts)
                change = {"f": Const(0)} if name == "u" else {"f": Const(0), "g": Choose.table([0, 0])}
                # The unread function u may have any new result.
                self.assertIs(self.holds(program, change, [], KEPT), name == "g")
                self.assertTrue(self.holds(program, change, ["u"], KEPT))

    def test_kept_is_for_the_verdict_true(self):
        program, change = guarded(False)
        tree = ("old", "u", 0, (("broken", "f", 0), VOID))
        self.assertTrue(self.holds(program, change, ["r"], tree))
        # With u(0) = 1 all possible new results are allowed.
        self.assertFalse(self.holds(program, change, ["r"], ("old", "u", 0, (("broken", "f", 0), KEPT))))
        self.assertFalse(self.holds(program, change, ["u"], KEPT))

    def test_broken(self):
        program = Program(2, {"f": (ZERO, Const(0)), "g": (FREE, Call("f", Arg()))})
        for body, names in ((Const(1), [("f", 0)]), (Choose.table([1, 0]), [("f", 0)]), (Arg(), [])):
            for name in "fg":
                for at in (0, 1):
                    tree = ("broken", name, at)
                    self.assertIs(self.holds(program, {"f": body}, [], tree), (name, at) in names)

    def test_broken_by_an_unread_or_read_function(self):
        program = Program(2, {"f": (FREE, Arg()), "g": (ZERO, Call("f", Const(0)))})
        change = {"f": Const(1)}
        self.assertFalse(self.holds(program, change, [], ("broken", "g", 0)))
        self.assertTrue(self.holds(program, change, ["g"], ("broken", "g", 0)))
        self.assertFalse(self.holds(program, change, ["g"], ("broken", "g", 1)))
        self.assertFalse(self.holds(program, change, [], ("new", "g", 0, (("broken", "g", 0), ("broken", "g", 0)))))
        program = Program(3, {"f": (FREE3, Arg()), "g": (Contract(((0, 2), (1,), (2,))), Choose.table([2, 1, 2]))})
        for numbers, expected in (([1, 1, 2], True), ([0, 1, 2], False), ([2, 2, 2], False)):
            self.assertIs(self.holds(program, {"g": Choose.table(numbers)}, [], ("broken", "g", 0)), expected)

    def test_broken_needs_all_possible_results(self):
        program = Program(3, {"u": (Contract(((0, 1), (1,), (2,))), Arg()), "f": (Contract.exactly((2, 2, 2)), Const(2))})
        self.assertTrue(self.holds(program, {"f": Call("u", Const(0))}, [], ("broken", "f", 0)))
        program = Program(3, {"u": (Contract(((0, 2), (1,), (2,))), Arg()), "f": (Contract.exactly((2, 2, 2)), Const(2))})
        self.assertFalse(self.holds(program, {"f": Call("u", Const(0))}, [], ("broken", "f", 0)))
        self.assertTrue(self.holds(program, {"f": Call("u", Const(0))}, ["u"], ("broken", "f", 0)))

    def test_broken_is_for_the_verdict_false(self):
        program, change = guarded(True)
        self.assertTrue(self.holds(program, change, ["r"], ("old", "u", 0, (KEPT, VOID))))
        # With u(0) = 1 the result of f is not allowed.
        self.assertFalse(self.holds(program, change, ["r"], ("old", "u", 0, (KEPT, ("broken", "f", 0)))))


class OldTest(TreeCase):
    PROGRAM = Program(3, {"u": (Contract(((0, 2), (1,), (0, 1, 2))), Arg()), "r": (FREE3, Call("u", Arg())),
                          "f": (FREE3, Const(0))})
    CHANGE = {"f": Choose.table([0, 1, 2])}

    def old(self, *items):
        return self.holds(self.PROGRAM, self.CHANGE, ["r"], ("old", *items))

    def test_a_tree_for_each_allowed_value(self):
        for argument, many in ((0, 2), (1, 1), (2, 3)):
            for trees in range(5):
                self.assertIs(self.old("u", argument, (KEPT,) * trees), trees == many)

    def test_only_unread_functions(self):
        for name in "rf":
            for trees in range(4):
                self.assertFalse(self.old(name, 2, (KEPT,) * trees))
        tree = ("old", "r", 2, (KEPT,) * 3)
        self.assertTrue(self.holds(self.PROGRAM, self.CHANGE, [], tree))
        self.assertTrue(self.holds(self.PROGRAM, self.CHANGE, ["u"], tree))

    def test_a_result_that_is_assumed_already(self):
        self.assertFalse(self.old("u", 0, (KEPT, ("old", "u", 0, (KEPT, KEPT)))))
        self.assertFalse(self.old("u", 1, (("old", "u", 1, (KEPT,)),)))
        self.assertTrue(self.old("u", 0, (KEPT, ("old", "u", 1, (KEPT,)))))
        self.assertFalse(self.old("u", 0, (KEPT, ("old", "u", 1, (("old", "u", 0, (KEPT, KEPT)),)))))
        # The same result may be told in two cases that exclude each other.
        again = ("old", "u", 1, (KEPT,))
        self.assertTrue(self.old("u", 0, (again, again)))

    def test_each_tree_must_be_correct(self):
        for wrong in range(3):
            trees = [VOID if at == wrong else KEPT for at in range(3)]
            self.assertFalse(self.old("u", 2, tuple(trees)))

    def test_trees_in_another_order(self):
        program, change = guarded(True)
        self.assertTrue(self.holds(program, change, ["r"], ("old", "u", 0, (KEPT, VOID))))
        self.assertFalse(self.holds(program, change, ["r"], ("old", "u", 0, (VOID, KEPT))))

    def test_the_trees_stand_for_the_allowed_values(self):
        program = Program(3, {"u": (Contract(((0, 2), (1,), (2,))), Arg()), "f": (Contract.exactly((0, 0, 0)), Const(0))})
        for numbers, expected in (((0, 0, 1), False), ((0, 1, 0), True)):
            change = {"f": Choose(Call("u", Const(0)), tuple(Const(number) for number in numbers))}
            self.assertIs(self.holds(program, change, [], ("old", "u", 0, (KEPT, KEPT))), expected)

    def test_a_result_that_does_not_matter_may_be_told(self):
        tree = KEPT
        for name, argument, many in (("u", 0, 2), ("u", 1, 1), ("u", 2, 3)):
            tree = ("old", name, argument, (tree,) * many)
        self.assertTrue(self.holds(self.PROGRAM, self.CHANGE, ["r"], tree))

    def test_void_cases_have_correct_trees_too(self):
        program, change = guarded(True)
        inner = ("old", "u", 1, (VOID, VOID))
        self.assertTrue(self.holds(program, change, ["r"], ("old", "u", 0, (KEPT, inner))))
        inner = ("old", "u", 1, (VOID, KEPT))
        self.assertFalse(self.holds(program, change, ["r"], ("old", "u", 0, (KEPT, inner))))
        inner = ("old", "u", 0, (VOID, VOID))
        self.assertFalse(self.holds(program, change, ["r"], ("old", "u", 0, (KEPT, inner))))


class NewTest(TreeCase):
    PROGRAM = Program(3, {"f": (FREE3, Arg()), "a": (FREE3, Arg()),
                          "u": (Contract(((0,), (0, 1), (0, 1, 2))), Call("f", Const(0))),
                          "v": (FREE3, Call("a", Arg())), "w": (FREE3, Call("u", Arg())), "r": (FREE3, Call("f", Arg()))})
    CHANGE = {"f": Const(0)}
    SAME = {"f": Choose.table([0, 1, 2])}
    LEAF = ("old", "a", 0, (KEPT,) * 3)

    def test_a_tree_for_each_value(self):
        program = Program(2, {"f": (FREE, Arg()), "u": (ZERO, Call("f", Const(0))), "v": (ZERO, Call("f", Const(0)))})
        broken = ("broken", "v", 0)
        for argument in (0, 1):
            for many in range(5):
                tree = ("new", "u", argument, (broken,) * many)
                self.assertIs(self.holds(program, {"f": Const(1)}, ["v"], tree), many == 2)

    def test_the_number_is_the_size(self):
        for argument in (0, 1, 2):
            for many in range(5):
                tree = ("new", "w", argument, (KEPT,) * many)
                program = Program(3, {"f": (FREE3, Arg()), "w": (Contract.free(3), Call("f", Arg()))})
                self.assertIs(self.holds(program, {"f": Const(0)}, [], tree), many == 3)

    def test_the_assumption_counts(self):
        program = Program(2, {"f": (FREE, Arg()), "u": (FREE, Call("f", Arg())), "k": (NONE, Const(0))})
        change = {"f": Const(0), "k": Choose(Call("u", Const(1)), (Const(0), Const(1)))}
        self.assertTrue(program.changed(change).kept)
        self.assertFalse(self.holds(program, change, [], ("new", "u", 1, (KEPT, KEPT))))
        self.assertFalse(self.holds(program, change, [], KEPT))
        self.assertTrue(self.holds(program, change, ["u"], KEPT))

    def test_only_unread_functions(self):
        for name, chosen, expected in (("r", [], True), ("r", ["r"], False), ("f", [], False), ("w", [], True),
                                       ("w", ["u"], True), ("w", ["w"], False)):
            program = Program(3, {"f": (FREE3, Arg()), "u": (FREE3, Call("f", Arg())), "w": (FREE3, Call("u", Arg())),
                                  "r": (FREE3, Call("f", Arg()))})
            tree = ("new", name, 0, (KEPT,) * 3)
            self.assertIs(self.holds(program, self.CHANGE, chosen, tree), expected, (name, chosen))

    def test_functions_that_call_only_settled_ones(self):
        free = {name: (FREE3, self.PROGRAM.body(name)) for name in self.PROGRAM.names}
        program = Program(3, free)
        for change, names in ((self.CHANGE, "uwr"), (self.SAME, "")):
            for name in "auvwr":
                tree = ("new", name, 0, (KEPT,) * 3)
                self.assertIs(self.holds(program, change, [], tree), name in names, name)

    def test_functions_that_are_settled_by_assumptions(self):
        program = Program(2, {"f": (FREE, Arg()), "u": (FREE, Call("f", Arg())), "w": (FREE, Call("u", Arg()))})

        def tree(leaf, other):
            """Leaf stands in the one case with u = (1, 0) before and after the change."""
            for word, argument, value in (("new", 1, 0), ("new", 0, 1), ("old", 1, 0), ("old", 0, 1)):
                trees = (leaf, other) if value == 0 else (other, leaf)
                leaf = (word, "u", argument, trees)
            return leaf

        new = ("new", "w", 0, (KEPT, KEPT))
        self.assertTrue(self.holds(program, self.CHANGE, [], tree(KEPT, KEPT)))
        self.assertTrue(self.holds(program, self.CHANGE, [], tree(KEPT, new)))
        self.assertFalse(self.holds(program, self.CHANGE, [], tree(new, KEPT)))

    def test_a_result_that_is_assumed_already(self):
        program = Program(2, {"f": (FREE, Arg()), "u": (FREE, Call("f", Arg()))})
        change = {"f": Const(0)}
        new, old = ("new", "u", 0, (KEPT, KEPT)), ("old", "u", 0, (KEPT, KEPT))
        for outer, inner, expected in (("new", new, False), ("new", old, True), ("old", new, True), ("old", old, False),
                                       ("new", ("new", "u", 1, (KEPT, KEPT)), True),
                                       ("new", ("new", "u", 1, (KEPT, new)), False)):
            self.assertIs(self.holds(program, change, [], (outer, "u", 0, (KEPT, inner))), expected)

    def test_trees_in_another_order(self):
        program = Program(2, {"f": (FREE, Arg()), "u": (ZERO, Call("f", Const(0))), "r": (ZERO, Call("u", Const(0)))})
        change = {"f": Const(1), "r": Const(1)}
        broken = ("broken", "r", 0)
        self.assertTrue(self.holds(program, change, [], ("new", "u", 0, (broken, ("broken", "u", 0)))))
        self.assertFalse(self.holds(program, change, [], ("new", "u", 0, (("broken", "u", 0), broken))))

    def test_old_results_say_nothing_of_new_ones(self):
        # The new k asks for the new u(0); u calls f, which is not settled.
        program = Program(2, {"f": (FREE, Const(0)), "u": (FREE, Call("f", Arg())), "k": (NONE, Const(0))})
        change = {"f": Arg(), "k": Choose(Call("u", Const(0)), (Const(0), Const(1)))}
        self.assertFalse(self.holds(program, change, [], ("old", "u", 0, (KEPT, KEPT))))
        self.assertTrue(self.holds(program, change, ["u"], KEPT))
        change["f"] = Choose.table([0, 0])
        self.assertFalse(self.holds(program, change, [], KEPT))
        self.assertFalse(self.holds(program, change, [], ("old", "u", 0, (KEPT, KEPT))))


class SetTest(TreeCase):
    def test_lists_and_tuples(self):
        program = Program(2, {"f": (FREE, Arg()), "g": (ZERO, Call("f", Const(0)))})
        for chosen in (["g"], ("g",)):
            self.assertTrue(derives(program, {"f": Const(1)}, chosen, ("broken", "g", 0)))

    def test_nothing_is_modified(self):
        program, change = guarded(True)
        chosen = ["r"]
        tree = ("old", "u", 0, (KEPT, VOID))
        before = list(change.items())
        self.assertTrue(derives(program, change, chosen, tree))
        self.assertEqual([list(change.items()), chosen], [before, ["r"]])

    def test_samples_as_the_document_says(self):
        seen = set()
        for seed in range(300):
            program, change, source = reference.sample(seed, 5)
            names = reference.unchanged(program, change)
            chosen = [name for name in names if source.random() < 0.4]
            for wrong in (0, 0, 0.03, 0.1):
                tree = reference.sample_tree(source, program, change, chosen, {}, wrong)
                answer = self.holds(program, change, chosen, tree)
                seen.add((answer, tree[0]))
        for answer in (True, False):
            for word in ("kept", "broken", "old", "new"):
                self.assertIn((answer, word), seen)


class BadTreeTest(TreeCase):
    PROGRAM = Program(3, {"u": (FREE3, Arg()), "f": (FREE3, Arg())})
    CHANGE = {"f": Const(0)}
    BAD = [(), ("kept", "u"), ("void", ()), ("void", 0), ("Kept",), ("",), ("other",), (0,), (None,), (True,), ((),),
           (("kept",),), (b"kept",), ("broken",), ("broken", "u"), ("broken", "u", 0, ()), ("broken", "u", 0, KEPT),
           ("old",), ("old", "u"), ("old", "u", 0), ("old", "u", 0, (KEPT,), ()), ("new", "u", 0),
           ("new", "u", 0, (KEPT,), KEPT), ("other", "u", 0, ()), ("read", "u", 0), ("u", "old", 0, ()),
           ("old", 0, "u", ()), ([],), ({},), ("kep",), ("kept ",), ("old", ("u", 0), ()), ("broken", ("u", 0))]
    NAMES = ["x", "", "U", "uf", 0, None, True, b"u", ["u"], ("u",), {}, 1]
    ARGUMENTS = [3, 4, -1, 10 ** 30, True, False, None, "0", "", (0,), [0], b"0", {}, Const(0)]
    TREES = [[], [KEPT] * 3, None, 0, "", "kept", {}, {0: KEPT}, True, KEPT, VOID, ("old", "u", 0, ()), (KEPT, "kept"),
             (KEPT, None, KEPT), (None,), (0,), ((),), ((KEPT,),), ([KEPT],), (["kept"],), (KEPT, KEPT, ["kept"])]

    def bad(self):
        yield from self.BAD
        for name in self.NAMES:
            yield from [("broken", name, 0), ("old", name, 0, (KEPT,) * 3), ("new", name, 0, (KEPT,) * 3)]
        for argument in self.ARGUMENTS:
            yield from [("broken", "u", argument), ("old", "u", argument, (KEPT,) * 3), ("new", "f", argument, ())]
        for trees in self.TREES:
            yield from [("old", "u", 0, trees), ("new", "u", 0, trees), ("old", "f", 0, trees)]
        yield from [["kept"], [("kept",)], ["old", "u", 0, (KEPT,) * 3], "kept", {"kept": 1}] + NO_PROGRAMS

    def test_at_the_root(self):
        for tree in self.bad():
            self.refuses(BadTree, derives, self.PROGRAM, self.CHANGE, [], tree)

    def test_deeper(self):
        for tree in self.bad():
            for trees in ((tree, KEPT, KEPT), (KEPT, KEPT, tree), (tree,), (KEPT,) * 3 + (tree,)):
                self.refuses(BadTree, derives, self.PROGRAM, self.CHANGE, [], ("old", "u", 0, trees))
            inner = ("old", "u", 1, (KEPT, ("new", "f", 0, (VOID, tree)), KEPT))
            self.refuses(BadTree, derives, self.PROGRAM, self.CHANGE, [], ("old", "u", 0, (KEPT, inner, VOID)))

    def test_far_below(self):
        tree = ("kept", "u")
        for _ in range(30000):
            tree = ("old", "u", 0, (tree,))
        self.refuses(BadTree, derives, self.PROGRAM, self.CHANGE, [], tree)

    def test_where_no_case_leads(self):
        # The form is looked at everywhere, whatever is wrong above it.
        bad = ("old", "u", 3, ())
        for tree in (("old", "f", 0, (KEPT, bad)), ("old", "u", 0, (bad,)), ("old", "u", 0, (VOID, VOID, bad)),
                     ("old", "u", 0, (VOID, KEPT, KEPT, bad)), ("new", "u", 0, (bad, KEPT, KEPT))):
            self.refuses(BadTree, derives, self.PROGRAM, self.CHANGE, [], tree)

    def test_arguments_of_the_smaller_size(self):
        program = Program(2, {"u": (FREE, Arg()), "f": (FREE, Arg())})
        self.refuses(BadTree, derives, program, {"f": Const(0)}, [], ("broken", "u", 2))
        self.refuses(BadTree, derives, program, {"f": Const(0)}, [], ("old", "u", 2, (KEPT, KEPT)))
        self.assertFalse(self.holds(program, {"f": Const(0)}, [], ("broken", "u", 1)))

    def test_well_formed_but_not_correct(self):
        for tree in (("old", "u", 0, ()), ("new", "u", 2, ()), ("old", "f", 0, (KEPT,) * 7), ("broken", "f", 2),
                     ("new", "f", 0, (("old", "f", 1, ()),)), VOID):
            self.assertFalse(self.holds(self.PROGRAM, self.CHANGE, [], tree))


class NodesTest(TreeCase):
    PROGRAM = Program(3, {"u": (FREE3, Arg()), "f": (FREE3, Arg())})
    CHANGE = {"f": Const(0)}

    def test_wide(self):
        for leaf in (KEPT, ("old", "f", 0, ())):
            self.assertFalse(derives(self.PROGRAM, self.CHANGE, [], ("old", "u", 0, (leaf,) * 99999)))
            self.refuses(BadTree, derives, self.PROGRAM, self.CHANGE, [], ("old", "u", 0, (leaf,) * 100000))

    def test_deep(self):
        tree = KEPT
        for _ in range(99999):
            tree = ("new", "u", 0, (tree,))
        self.assertFalse(derives(self.PROGRAM, self.CHANGE, [], tree))
        self.refuses(BadTree, derives, self.PROGRAM, self.CHANGE, [], ("new", "u", 0, (tree,)))

    def test_deep_and_wide(self):
        tree = ("broken", "u", 0)
        for _ in range(24999):
            tree = ("old", "u", 0, (KEPT, VOID, ("broken", "u", 0), tree))
        self.assertFalse(derives(self.PROGRAM, self.CHANGE, [], ("old", "u", 1, (tree, KEPT, KEPT))))
        self.refuses(BadTree, derives, self.PROGRAM, self.CHANGE, [], ("old", "u", 1, (tree, KEPT, KEPT, VOID)))

    def test_parts_that_occur_often_count_each_time(self):
        tree = KEPT
        for _ in range(200):
            tree = ("old", "u", 0, (tree, tree, tree))
        self.refuses(BadTree, derives, self.PROGRAM, self.CHANGE, [], tree)
        tree = KEPT
        for _ in range(200):
            tree = ("old", "u", 0, (tree,) * 50000)
        self.refuses(BadTree, derives, self.PROGRAM, self.CHANGE, [], tree)

    def test_a_correct_tree_with_the_most_nodes(self):
        # Told are 10 results with 3 values each, then in as many cases as needed one with 1 value.
        parts = {name: (FREE3, Arg()) for name in "abcd"}
        program = Program(3, {**parts, "e": (Contract.exactly((0, 1, 2)), Arg()), "f": (FREE3, Arg())})
        many = [(3 ** 11 - 1) // 2]

        def tree(places):
            if places:
                name, argument = places[0]
                return ("old", name, argument, tuple(tree(places[1:]) for _ in range(3)))
            if many[0] < 100000:
                many[0] += 1
                return ("old", "e", 0, (KEPT,))
            return KEPT

        places = [(name, argument) for name in "abcd" for argument in range(3)][:10]
        full = tree(places)
        self.assertEqual(many, [100000])
        self.assertTrue(derives(program, self.CHANGE, [], full))
        more = (*full[:3], (*full[3][:2], ("old", "e", 0, (full[3][2],))))
        self.refuses(BadTree, derives, program, self.CHANGE, [], more)


class ErrorsTest(Case):
    def test_bad_program(self):
        for program in NO_PROGRAMS:
            self.refuses(BadProgram, derives, program, CHANGE, [], KEPT)
            self.refuses(BadProgram, derives, program, None, None, None)

    def test_bad_change(self):
        for change in NO_CHANGES + [{"f": Const(2)}]:
            self.refuses(BadChange, derives, PROGRAM, change, [], KEPT)
            self.refuses(BadChange, derives, PROGRAM, change, None, None)

    def test_bad_choice(self):
        for chosen in NO_CHOICES:
            self.refuses(BadChoice, derives, PROGRAM, CHANGE, chosen, KEPT)
            self.refuses(BadChoice, derives, PROGRAM, CHANGE, chosen, None)
        for chosen in ([], (), ["a"], ["g"], ("a", "g")):
            self.assertTrue(derives(PROGRAM, CHANGE, chosen, KEPT))


if __name__ == "__main__":
    unittest.main()
