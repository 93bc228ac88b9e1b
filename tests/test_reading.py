import unittest

import reference
from mustread import reading
from mustread.derivations import derives
from mustread.errors import BadChange, BadChoice, BadProgram, TooLarge
from mustread.expressions import Arg, Call, Choose, Const
from mustread.programs import Contract, Program
from mustread.reading import Reading, is_enough, must_read
from mustread.rivals import differing, is_rival
from support import CHANGE, FREE, FREE3, KEPT, NO_CHANGES, NO_CHOICES, NO_PROGRAMS, NONE, PROGRAM, VOID, ZERO, Case


def asking(yes, no, *names):
    """An expression with one value if all of these functions are 1 for 0, and another value otherwise."""
    body = Const(yes)
    for name in reversed(names):
        body = Choose(Call(name, Const(0)), (Const(no), body))
    return body


def either(verdict, order, costly):
    """The verdict turns if a(0) and one of b(0) and c(0) turn; the body of a has so many nodes."""
    bodies = {"a": (FREE, {1: Arg(), 2: Call("z", Arg()), 4: Choose.table([0, 0])}[costly]),
              "b": (FREE, Arg()), "c": (FREE, Arg()), "z": (NONE, Const(0))}
    parts = {name: bodies[name] for name in order}
    usual, unusual = (0, 1) if verdict else (1, 0)
    both = Choose(Call("b", Const(0)), (Choose(Call("c", Const(0)), (Const(usual), Const(unusual))), Const(unusual)))
    new = Choose(Call("a", Const(0)), (Const(usual), both))
    program = Program(2, {**parts, "k": (NONE, Const(0))})
    return program, {"k": new}


class ReadCase(Case):
    def read(self, program, change):
        """The Reading, after all that the document says of it has been checked by other means."""
        found = must_read(program, change)
        self.assertIs(type(found), Reading)
        self.assertEqual([type(found.chosen), type(found.tree), type(found.doubts)], [list, tuple, list])
        self.assertTrue(derives(program, change, found.chosen, found.tree))
        self.assertTrue(reference.correct(program, change, found.chosen, found.tree, {}))
        verdict = program.changed(change).kept
        for doubt in found.doubts:
            self.assertTrue(is_rival(program, change, doubt))
            self.assertIsNot(doubt.changed(change).kept, verdict)
        most = self.cost(program, found.chosen)
        for chosen in reference.sets_of(reference.unchanged(program, change)):
            if all(set(chosen) & set(differing(program, doubt)) for doubt in found.doubts):
                self.assertGreaterEqual(self.cost(program, chosen), most)
        self.assertIs(found.shows(program, change), True)
        return found

    def cost(self, program, names):
        return sum(len(list(program.body(name).nodes())) for name in names)


class ExampleTest(ReadCase):
    def test_example_of_the_document(self):
        some = Contract(((0,), (0, 1)))
        program = Program(2, {'f': (Contract.free(2), Arg()), 'g': (some, Call('f', Const(0))), 'h': (some, Const(0))})
        self.assertEqual([must_read(program, {'f': Const(1)}).chosen, must_read(program, {'h': Arg()}).chosen],
                         [['g'], []])
        self.assertEqual(self.read(program, {"f": Const(1)}).chosen, ["g"])
        self.assertEqual(self.read(program, {"h": Arg()}).chosen, [])

    def test_defined_here(self):
        for one in (is_enough, must_read, Reading):
            self.assertEqual(one.__module__, reading.__name__)
        for name in ("__init__", "__eq__", "shows"):
            self.assertIn(name, vars(Reading))


class EnoughTest(ReadCase):
    def enough(self, program, change):
        found = []
        for chosen in reference.sets_of(reference.unchanged(program, change)):
            answer = is_enough(program, change, chosen)
            self.assertIs(type(answer), bool)
            self.assertIs(is_enough(program, change, tuple(chosen)), answer)
            if answer:
                found.append("".join(chosen))
        return found

    def test_one_of_two(self):
        for verdict in (True, False):
            program, change = either(verdict, "abc", 4)
            self.assertEqual(program.changed(change).kept, verdict)
            self.assertEqual(self.enough(program, change), ["a", "ab", "ac", "bc", "abc"])

    def test_the_empty_set(self):
        program = Program(2, {"f": (FREE, Arg()), "h": (ZERO, Const(0))})
        self.assertEqual(self.enough(program, {"h": Arg()}), ["", "f"])
        self.assertEqual(self.enough(program, {"h": Const(1)}), ["", "f"])
        # No contract can be broken, so nothing needs to be read.
        program = Program(2, {"f": (FREE, Arg()), "g": (FREE, Call("f", Arg()))})
        self.assertEqual(self.enough(program, {"f": Const(0)}), ["", "g"])

    def test_a_function_that_does_not_use_the_change(self):
        program = Program(2, {"u": (ZERO, Const(0)), "f": (NONE, Const(0))})
        self.assertEqual(self.enough(program, {"f": Call("u", Const(0))}), ["", "u"])
        self.assertEqual(self.enough(program, {"f": Call("u", Const(1))}), ["u"])

    def test_a_chain(self):
        program = Program(2, {"f": (FREE, Arg()), "g": (FREE, Call("f", Arg())), "h": (ZERO, Call("g", Const(0)))})
        self.assertEqual(self.enough(program, {"f": Const(1)}), ["gh"])
        # f is as before, so all functions that use it are settled.
        self.assertEqual(self.enough(program, {"f": Choose.table([0, 1])}), ["", "g", "h", "gh"])
        program = Program(2, {"f": (FREE, Arg()), "g": (FREE, Call("f", Arg())), "h": (ZERO, Const(0))})
        self.assertEqual(self.enough(program, {"f": Const(1)}), ["", "g", "h", "gh"])

    def test_a_contract_tells_what_was_before(self):
        # g keeps g(0) = 0, and what it was read to do tells u(0) = 0.
        program = Program(2, {"u": (FREE, Arg()), "g": (ZERO, Call("u", Const(0))), "f": (NONE, Const(0))})
        self.assertEqual(self.enough(program, {"f": Call("u", Const(0))}), ["u", "g", "ug"])

    def test_no_unchanged_functions(self):
        for body, verdict in ((Const(1), False), (Choose.table([0, 0]), True)):
            program = Program(2, {"f": (NONE, Const(0))})
            self.assertIs(program.changed({"f": body}).kept, verdict)
            self.assertIs(is_enough(program, {"f": body}, []), True)
            self.assertIs(is_enough(program, {"f": body}, ()), True)

    def test_what_all_rivals_say(self):
        seen = set()
        for seed in range(1500):
            program, change, _ = reference.sample(seed)
            if reference.many_rivals(program, change) <= 500:
                refuting = reference.refuting_sets(program, change)
                for chosen in reference.sets_of(reference.unchanged(program, change)):
                    answer = is_enough(program, change, chosen)
                    self.assertIs(answer, reference.enough_by_rivals(refuting, chosen), (seed, chosen))
                    seen.add((answer, program.changed(change).kept, len(chosen)))
                found = self.read(program, change)
                self.assertEqual(found.chosen, reference.cheapest_by_rivals(program, change, refuting))
        for verdict in (True, False):
            for answer, many in ((True, 0), (True, 1), (True, 2), (False, 0), (False, 1)):
                self.assertIn((answer, verdict, many), seen)

    def test_rivals_with_any_small_bodies(self):
        parts = {"f": (FREE, Arg()), "u": (FREE, Call("f", Arg())), "g": (ZERO, Call("u", Const(0)))}
        program = Program(2, parts)
        plain = [Const(0), Const(1), Arg()]
        for change in ({"f": Const(1)}, {"f": Choose.table([0, 0])}, {"f": Choose.table([0, 1])}):
            verdict = program.changed(change).kept
            bodies = []
            for name in "fu":
                some = plain + [Call(name, body) for body in plain] + [Call(name, Call(name, body)) for body in plain]
                bodies.append(some + [Choose(test, (one, two)) for test in some for one in plain for two in plain])
            refuting = set()
            for one in bodies[0]:
                for two in bodies[1]:
                    rival = Program(2, {**parts, "u": (FREE, one), "g": (ZERO, two)})
                    if is_rival(program, change, rival) and rival.changed(change).kept != verdict:
                        refuting.add(tuple(differing(program, rival)))
            for chosen in ([], ["u"], ["g"], ["u", "g"]):
                self.assertIs(is_enough(program, change, chosen), reference.enough_by_rivals(refuting, chosen))


class CheapestTest(ReadCase):
    def test_the_cost_is_the_number_of_nodes(self):
        for verdict in (True, False):
            self.assertEqual(self.read(*either(verdict, "abc", 4)).chosen, ["b", "c"])
            self.assertEqual(self.read(*either(verdict, "abc", 1)).chosen, ["a"])
            self.assertEqual(self.read(*either(verdict, "bca", 1)).chosen, ["a"])

    def test_the_first_of_the_cheapest_sets(self):
        for verdict in (True, False):
            for order, chosen in (("zabc", ["a"]), ("zbac", ["b", "c"]), ("bzac", ["b", "c"]), ("bcza", ["b", "c"]),
                                  ("cbza", ["c", "b"])):
                program, change = either(verdict, order, 2)
                self.assertEqual(self.read(program, change).chosen, chosen)
                for other in (["a"], [name for name in order if name in "bc"]):
                    self.assertTrue(is_enough(program, change, other))

    def test_the_first_of_single_functions(self):
        for names in ("abcd", "dbca"):
            program = Program(2, {**{name: (FREE, Arg()) for name in names}, "k": (NONE, Const(0))})
            change = {"k": asking(1, 0, "c", "b", "d")}
            first = [name for name in names if name != "a"][0]
            self.assertEqual(self.read(program, change).chosen, [first])

    def test_a_cheap_set_of_many(self):
        parts = {name: (FREE, Arg()) for name in "abc"}
        parts["d"] = (FREE, Choose.table([0, 0]))
        program = Program(2, {**parts, "k": (NONE, Const(0))})
        bodies = Const(0)
        for name in "cba":
            bodies = Choose(Call(name, Const(0)), (bodies, Call("d", Const(0))))
        self.assertEqual(self.read(program, {"k": bodies}).chosen, ["a", "b", "c"])

    def test_no_unchanged_functions(self):
        for body, tree in ((Const(1), ("broken", "f", 0)), (Choose.table([0, 0]), KEPT)):
            program = Program(2, {"f": (NONE, Const(0))})
            found = self.read(program, {"f": body})
            self.assertEqual([found.chosen, found.doubts], [[], []])
            self.assertTrue(Reading([], tree, []).shows(program, {"f": body}))

    def test_several_changed_functions(self):
        program = Program(2, {"f": (FREE, Arg()), "g": (NONE, Call("f", Const(0))), "h": (FREE, Call("g", Arg()))})
        for change, chosen in (({"f": Const(1)}, ["g"]), ({"h": Arg(), "f": Const(1)}, ["g"]),
                               ({"f": Const(1), "g": Const(0)}, []), ({"g": Const(0)}, [])):
            self.assertEqual(self.read(program, change).chosen, chosen)

    def test_larger_samples(self):
        sizes = set()
        for seed in range(1000, 1400):
            program, change, _ = reference.sample(seed, 6)
            try:
                found = self.read(program, change)
            except TooLarge:
                continue
            sizes.add(len(found.chosen))
            for chosen in reference.sets_of(reference.unchanged(program, change)):
                if self.cost(program, chosen) < self.cost(program, found.chosen):
                    self.assertFalse(is_enough(program, change, chosen))
        self.assertGreater(len(sizes), 2)

    def test_new_lists(self):
        program, change = either(True, "abc", 4)
        found = must_read(program, change)
        found.chosen.append("x")
        found.doubts.clear()
        self.assertEqual(self.read(program, change).chosen, ["b", "c"])

    def test_nothing_is_modified_or_kept(self):
        program, change = either(True, "abc", 4)
        before, chosen = list(change.items()), ["b"]
        found = must_read(program, change)
        is_enough(program, change, chosen)
        found.shows(program, change)
        self.assertEqual([list(change.items()), chosen, program], [before, ["b"], either(True, "abc", 4)[0]])
        change["a"] = Const(1)
        del change["k"]
        self.assertTrue(found.shows(*either(True, "abc", 4)))


class ReadingTest(Case):
    def test_attributes(self):
        program = either(True, "abc", 4)[0]
        found = Reading(["a"], KEPT, [program])
        self.assertEqual([found.chosen, found.tree, found.doubts], [["a"], KEPT, [program]])
        found = Reading(chosen=[], tree=VOID, doubts=[])
        self.assertEqual([found.chosen, found.tree, found.doubts], [[], VOID, []])

    def test_lists_are_copied(self):
        program = either(True, "abc", 4)[0]
        chosen, doubts = ["a"], [program]
        found = Reading(chosen, KEPT, doubts)
        chosen.append("b")
        doubts.clear()
        self.assertEqual([found.chosen, found.doubts], [["a"], [program]])
        found.chosen.append("c")
        found.doubts.append(program)
        self.assertEqual([chosen, doubts], [["a", "b"], []])

    def test_equality(self):
        program, other = either(True, "abc", 4)[0], either(True, "abc", 1)[0]
        tree = ("old", "a", 0, (KEPT, ("new", "b", 1, (VOID, KEPT))))
        found = Reading(["a"], tree, [program, other])
        same = Reading(["a"], ("old", "a", 0, (KEPT, ("new", "b", 1, (VOID, KEPT)))),
                       [either(True, "abc", 4)[0], either(True, "abc", 1)[0]])
        self.assertTrue(found == same)
        self.assertFalse(found != same)
        trees = [KEPT, VOID, ("old", "a", 0, (KEPT, KEPT)), ("old", "a", 1, tree[3]), ("old", "b", 0, tree[3]),
                 ("new", "a", 0, tree[3]), (*tree[:3], tree[3][:1]), (*tree[:3], tree[3] + (KEPT,)),
                 ("old", "a", 0, (KEPT, ("new", "b", 1, (KEPT, VOID)))), ("old", "a", 0, (KEPT, ())), ("old", "a", 0),
                 ("old", "a", False, tree[3]), ("old", "a", 0, (KEPT, ("new", "b", True, (VOID, KEPT))))]
        others = [Reading(["a"], one, [program, other]) for one in trees]
        others += [Reading(chosen, tree, [program, other]) for chosen in ([], ["b"], ["a", "b"])]
        others += [Reading(["a"], tree, doubts) for doubts in ([], [program], [other, program], [program, program])]
        for one in others + [(["a"], tree, [program, other]), tree] + NO_PROGRAMS:
            self.assertFalse(found == one)
            self.assertTrue(found != one)

    def test_equality_of_the_current_attributes(self):
        found, other = Reading(["a"], KEPT, []), Reading([], VOID, [])
        other.chosen, other.tree = ["a"], ("kept",)
        self.assertEqual(found, other)
        other.doubts = [either(True, "abc", 4)[0]]
        self.assertNotEqual(found, other)

    def test_equality_of_deep_trees(self):
        def deep(leaf):
            tree = leaf
            for _ in range(99999):
                tree = ("old", "u", 0, (tree,))
            return Reading([], tree, [])
        self.assertTrue(deep(KEPT) == deep(("kept",)))
        self.assertFalse(deep(KEPT) == deep(VOID))
        self.assertFalse(deep(KEPT) == deep(("broken", "u", 0)))


class ShowsTest(Case):
    def setUp(self):
        self.program, self.change = either(True, "abc", 4)

    def rival(self, *names, **bodies):
        """A rival in which these functions are 1."""
        return reference.with_bodies(self.program, {**{name: Const(1) for name in names}, **bodies})

    def shows(self, found):
        before = [list(found.chosen), found.tree, list(found.doubts)]
        answer = found.shows(self.program, self.change)
        self.assertIs(type(answer), bool)
        self.assertEqual([found.chosen, found.tree, found.doubts], before)
        return answer

    def good(self):
        return Reading(["b", "c"], KEPT, [self.rival("a", "b"), self.rival("a", "c")])

    def test_good_ones(self):
        self.assertTrue(self.shows(must_read(self.program, self.change)))
        self.assertTrue(self.shows(self.good()))
        self.assertTrue(self.shows(must_read(*either(True, "abc", 4))))
        # Longer trees, more doubts, doubts twice, and doubts in another order are as good.
        found = self.good()
        found.tree = ("old", "a", 0, (KEPT, ("old", "a", 1, (KEPT, KEPT))))
        found.doubts = [self.rival("a", "c"), self.rival("a", "b", "c"), self.rival("a", "c"), self.rival("a", "b")]
        self.assertTrue(self.shows(found))

    def test_another_cheapest_set(self):
        for order in ("zabc", "bcza"):
            self.program, self.change = either(True, order, 2)
            doubts = [self.rival("a", "b"), self.rival("a", "c")]
            for chosen in (["a"], ["b", "c"]):
                tree = must_read(*either(True, order, 2)).tree
                self.assertTrue(derives(self.program, self.change, chosen, tree))
                self.assertTrue(self.shows(Reading(chosen, tree, doubts)))

    def test_a_set_that_costs_more(self):
        for chosen in (["a"], ["a", "b"], ["a", "c"], ["a", "b", "c"]):
            self.assertTrue(derives(self.program, self.change, chosen, KEPT))
            found = self.good()
            found.chosen = chosen
            self.assertFalse(self.shows(found))
            self.assertFalse(self.shows(Reading(chosen, KEPT, found.doubts)))

    def test_a_set_that_is_not_enough(self):
        for chosen in ([], ["b"], ["c"]):
            found = self.good()
            found.chosen = chosen
            self.assertFalse(self.shows(found))

    def test_a_tree_that_is_not_correct(self):
        for tree in (VOID, ("broken", "k", 0), ("old", "b", 0, (KEPT, KEPT)), ("old", "a", 0, (KEPT,)),
                     ("old", "a", 0, ()), ("new", "a", 0, (KEPT, KEPT)), ("old", "a", 0, (KEPT, VOID))):
            found = self.good()
            found.tree = tree
            self.assertFalse(self.shows(found), tree)
        tree = KEPT
        for _ in range(50000):
            tree = ("old", "a", 0, (tree,))
        found.tree = tree
        self.assertIs(found.shows(self.program, self.change), False)

    def test_no_doubts(self):
        found = self.good()
        found.doubts = []
        self.assertFalse(self.shows(found))

    def test_doubts_that_a_cheaper_set_meets(self):
        for doubts in ([self.rival("a", "b")], [self.rival("a", "c")], [self.rival("a", "b", "c")],
                       [self.rival("a", "b"), self.rival("a", "b", "c")]):
            found = self.good()
            found.doubts = doubts
            self.assertFalse(self.shows(found))
        # What the doubts differ at counts, not what their results are.
        found.doubts = [self.rival("a", "b", c=Choose.table([0, 1])), self.rival("a", "c", b=Choose.table([0, 1]))]
        self.assertFalse(self.shows(found))

    def test_a_doubt_with_the_same_verdict(self):
        for doubt in (self.program, self.rival("a"), self.rival("b"), self.rival("b", "c"), self.rival(b=Const(0))):
            self.assertTrue(is_rival(self.program, self.change, doubt))
            for doubts in (self.good().doubts + [doubt], [doubt] + self.good().doubts, [doubt]):
                found = self.good()
                found.doubts = doubts
                self.assertFalse(self.shows(found))

    def test_a_doubt_that_is_no_rival(self):
        parts = {name: (self.program.contract(name), self.program.body(name)) for name in "abck"}
        one = {"a": (FREE, Const(1)), "b": (FREE, Const(1))}
        free = Contract.free(3)
        doubts = [Program(2, {**parts, **one, "c": (NONE, Const(0))}), Program(2, {**parts, **one, "x": (FREE, Arg())}),
                  Program(2, {**parts, **one, "c": (FREE, Call("a", Arg()))}),
                  Program(2, {**parts, **one, "k": (NONE, Choose.table([0, 0]))}),
                  Program(2, {**parts, **one, "k": (NONE, Const(1))}),
                  Program(2, {**{name: parts[name] for name in "bac"}, **one, "k": parts["k"]}), Program(2, one),
                  Program(3, {name: (free, Const(1)) for name in "abck"})]
        for doubt in doubts:
            self.assertFalse(is_rival(self.program, self.change, doubt))
            for doubts in (self.good().doubts + [doubt], [doubt] + self.good().doubts, [doubt]):
                found = self.good()
                found.doubts = doubts
                self.assertFalse(self.shows(found))

    def test_the_verdict_false(self):
        self.program, self.change = either(False, "abc", 4)
        tree = ("broken", "k", 0)
        doubts = [self.rival("a", "b"), self.rival("a", "c")]
        self.assertTrue(self.shows(Reading(["b", "c"], tree, doubts)))
        for found in (Reading(["b", "c"], KEPT, doubts), Reading(["a"], tree, doubts), Reading(["b", "c"], tree, []),
                      Reading(["b", "c"], ("broken", "k", 1), []), Reading(["b", "c"], tree, doubts[:1]),
                      Reading(["b", "c"], tree, doubts + [self.program])):
            self.assertFalse(self.shows(found))

    def test_of_another_program_or_change(self):
        found = must_read(self.program, self.change)
        self.assertFalse(found.shows(self.program, {"k": Choose.table([0, 0])}))
        self.assertFalse(found.shows(*either(False, "abc", 4)))


class TooLargeTest(Case):
    """Each factor is 1, 2 or 3: no product is 2000, and there is none between 1944 and 2048."""

    def check(self, program, change, small):
        names = reference.unchanged(program, change)
        calls = [lambda: must_read(program, change), lambda: Reading([], KEPT, []).shows(program, change)]
        calls += [lambda: is_enough(program, change, []), lambda: is_enough(program, change, names)]
        for call in calls:
            if small:
                call()
            else:
                self.refuses(TooLarge, call)

    def rows(self, *counts):
        return Contract(tuple(tuple(range(count)) for count in counts))

    def test_1944_and_2187(self):
        for counts, small in (((2, 2, 1), True), ((2, 1, 2), True), ((3, 1, 1), True), ((3, 3, 1), False),
                              ((2, 2, 2), False), ((1, 3, 2), False)):
            # The function g has 27 cases, and h has 18.
            zero = Choose(Call("f", Arg()), (Const(0),) * 3)
            program = Program(3, {"f": (FREE3, Arg()), "g": (Contract.exactly((0, 0, 0)), zero),
                                  "h": (self.rows(3, 3, 2), Const(0)), "i": (self.rows(*counts), Const(0))})
            self.check(program, {"f": Const(1)}, small)

    def test_1024_and_2048(self):
        for counts, small in (((1, 1), True), ((2, 1), False), ((1, 2), False), ((2, 2), False)):
            parts = {"f": (FREE, Arg())}
            for name in "gh":
                parts[name] = (FREE, Call("f", Arg()))
            program = Program(2, {**parts, "i": (FREE, Arg()), "j": (self.rows(*counts), Const(0))})
            self.check(program, {"f": Const(0)}, small)

    def test_2187(self):
        parts = {name: (FREE3, Arg()) for name in "ab"}
        for many, small in ((1, True), (2, True), (3, False)):
            program = Program(3, {**parts, "c": (self.rows(many, 1, 1), Const(0)), "f": (FREE3, Arg())})
            self.check(program, {"f": Const(0)}, small)

    def test_calls_through_others_count(self):
        exact = Contract.exactly((0, 0))
        zero = Const(0)
        parts = {"a": (FREE, Arg()), "f": (FREE, Arg()), "g": (exact, Choose(Call("f", Arg()), (zero, zero)))}
        for called, small in (("g", False), ("f", False), ("a", True)):
            # 4 for a, 4 for g; 4, and 4 more if it uses f, for h and i each; 2 for j.
            program = Program(2, {**parts, "h": (FREE, Call(called, Arg())), "i": (FREE, Call("h", Arg())),
                                  "j": (self.rows(2, 1), zero)})
            # 4 * 4 * 16 * 16 = 4096 for j's 1; 4 * 4 * 4 * 4 * 2 = 512.
            self.check(program, {"f": Const(0)}, small)
        # Not what a changed function calls, but what calls it.
        program = Program(2, {name: (FREE, Arg()) for name in "abcde"})
        program = reference.with_bodies(program, {"e": Call("d", Arg())})
        self.check(program, {"e": Call("a", Arg())}, True)
        self.check(program, {"d": Call("a", Arg())}, True)
        program = Program(2, {**{name: (FREE, Arg()) for name in "abcde"}, "f": (FREE, Call("e", Arg()))})
        self.check(program, {"f": Const(0)}, True)
        self.check(program, {"e": Const(0)}, False)

    def test_changed_functions_do_not_count(self):
        parts = {name: (FREE3, Arg()) for name in "abcdef"}
        program = Program(3, parts)
        change = {name: Const(0) for name in "abcd"}
        self.check(program, change, True)
        del change["d"]
        self.check(program, change, False)

    def test_functions_of_the_set_count(self):
        program = Program(3, {name: (FREE3, Arg()) for name in "abcd"})
        for chosen in ([], ["a"], ["a", "b", "c"]):
            self.refuses(TooLarge, is_enough, program, {"d": Const(0)}, chosen)


class ErrorsTest(Case):
    LARGE = Program(3, {**{name: (FREE3, Arg()) for name in "abcf"}, "g": (FREE3, Call("f", Arg()))})

    def test_bad_program(self):
        for program in NO_PROGRAMS:
            for change in (CHANGE, None, {}):
                self.refuses(BadProgram, must_read, program, change)
                self.refuses(BadProgram, is_enough, program, change, [])
                self.refuses(BadProgram, is_enough, program, change, None)
                self.refuses(BadProgram, Reading([], KEPT, []).shows, program, change)

    def test_bad_change(self):
        for program in (PROGRAM, self.LARGE):
            for change in NO_CHANGES:
                self.refuses(BadChange, must_read, program, change)
                self.refuses(BadChange, is_enough, program, change, [])
                self.refuses(BadChange, is_enough, program, change, None)
                self.refuses(BadChange, Reading([], KEPT, []).shows, program, change)

    def test_bad_choice(self):
        for program in (PROGRAM, self.LARGE):
            for chosen in NO_CHOICES:
                self.refuses(BadChoice, is_enough, program, CHANGE, chosen)
        for chosen in ([], (), ["a"], ["g"], ("a", "g")):
            self.assertIs(is_enough(PROGRAM, CHANGE, chosen), True)
            self.refuses(TooLarge, is_enough, self.LARGE, CHANGE, chosen)


if __name__ == "__main__":
    unittest.main()
