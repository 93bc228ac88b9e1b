"""What the document promises over the whole program: the modules agree with one another."""

import unittest

import reference
import support
import test_cases
import test_derivations
import test_impact
import test_reading
import test_reviews
import test_rivals
from mustread.derivations import derives
from mustread.errors import BadChange, BadProgram, TooLarge
from mustread.expressions import Arg, Call, Choose, Const
from mustread.impact import culprit, harmless, impact, trail
from mustread.programs import Contract, Program
from mustread.reading import is_enough, must_read
from mustread.reviews import Review
from mustread.texts import change_text, expression_text, program_text, read_change, read_expression, read_program

MODULES = [support, test_cases, test_derivations, test_impact, test_reading, test_reviews, test_rivals]


def values_of(owner):
    """What stands in a module, and in the classes of its tests."""
    for value in vars(owner).values():
        if isinstance(value, type) and value.__module__ == getattr(owner, "__name__", None):
            yield from vars(value).values()
        yield value


def handmade():
    """Each program with each change of it that a test file builds by hand."""
    values = [value for module in MODULES for value in values_of(module)]
    programs = [value for value in values if isinstance(value, Program)]
    changes = [value for value in values if isinstance(value, dict) and value and
               all(isinstance(body, (Arg, Call, Choose, Const)) for body in value.values())]
    for verdict in (True, False):
        built = [test_reading.either(verdict, order, cost) for order in ("abc", "cbza") for cost in (1, 4)]
        built += [test_reviews.pairs(verdict, "dbac", size) for size in (1, 2, 4)]
        built.append(test_derivations.guarded(verdict)[:2])
        programs += [program for program, _ in built]
        changes += [change for _, change in built]
    programs += [test_impact.summing(support.NONE, *parts) for parts in (["ab", "cd"], ["abcd"], ["a", "bc", "d", "bd"])]
    programs += [test_impact.calling(Call("p", Call("q", Arg())), size) for size in (2, 3)]
    for program in programs:
        found = []
        for change in changes:
            try:
                program.changed(change)
                found.append(change)
            except BadChange:
                pass
        yield program, found


class RoundTripTest(support.Case):
    def check_program(self, program):
        text = program_text(program)
        found = read_program(text)
        self.assertEqual([found, found.names, program_text(found)], [program, program.names, text])
        for name in program.names:
            body = program.body(name)
            self.assertEqual(read_expression(expression_text(body)), body)
            self.assertIn(f" = {expression_text(body)}\n", text)

    def check_change(self, program, change):
        text = change_text(program, change)
        found = read_change(read_program(program_text(program)), text)
        self.assertEqual(found, change)
        self.assertEqual(list(found), [name for name in program.names if name in change])
        self.assertEqual(change_text(program, found), text)
        self.check_program(program.changed(change))

    def test_what_the_other_tests_build(self):
        many = 0
        for program, changes in handmade():
            self.check_program(program)
            for change in changes:
                if program.kept:
                    self.check_change(program, change)
                    many += 1
                else:
                    self.refuses(BadProgram, change_text, program, change)
        self.assertGreater(many, 100)

    def test_samples(self):
        for seeds, most in ((range(1500), 4), (range(1000, 1400), 6), (range(3000, 3300), 6), (range(4000, 4400), 6)):
            for seed in seeds:
                program, change, _ = reference.sample(seed, most)
                self.check_program(program)
                self.check_change(program, change)


class AgreementTest(unittest.TestCase):
    def samples(self):
        for program, changes in handmade():
            if program.kept:
                yield from [(program, change) for change in changes[::9]]
        for seed in range(9000, 9120):
            yield reference.sample(seed, 6)[:2]

    def test_trails_lead_to_changed_functions(self):
        for program, change in self.samples():
            places = impact(program, change)
            known = [place[:2] for place in places]
            for name, argument in known:
                found = list(trail(program, change, name, argument))
                self.assertEqual(found[0], (name, argument))
                self.assertIn(found[-1][0], change)
                for place, (called, value) in zip(found, found[1:]):
                    self.assertIn(called, program.body(place[0]).calls)
                    self.assertNotIn(place[0], change)
                    self.assertIn((called, value), known)
            new = program.changed(change)
            self.assertEqual(places == [], all(program.results(name) == new.results(name) for name in program.names))

    def test_the_culprit_and_the_harmless_part(self):
        for program, change in self.samples():
            fault, good = culprit(program, change), harmless(program, change)
            self.assertEqual(fault is None, program.changed(change).kept)
            self.assertEqual(good == [name for name in program.names if name in change], fault is None)
            if fault is not None:
                self.assertFalse(program.changed({name: change[name] for name in fault}).kept)
            if good:
                self.assertTrue(program.changed({name: change[name] for name in good}).kept)

    def test_reviews_and_readings(self):
        seen = set()
        for program, change in self.samples():
            try:
                found = must_read(program, change)
            except TooLarge:
                self.assertRaises(TooLarge, Review, program, change)
                continue
            review = Review(program, change)
            self.assertEqual(review.rest, found.chosen)
            self.assertTrue(derives(program, change, review.rest, found.tree))
            names = reference.unchanged(program, change)
            for chosen in reference.sets_of(names):
                after = Review.after(program, change, chosen[::-1])
                enough = is_enough(program, change, chosen)
                self.assertEqual([after.outcome is not None, after.rest == []], [enough, enough])
                self.assertEqual(after.rest, reference.rest(program, change, chosen))
                left = list(after.finish())
                self.assertEqual([after.seen, after.rest], [chosen[::-1] + left, []])
                self.assertTrue(is_enough(program, change, [name for name in names if name in after.seen]))
                self.assertIs(after.outcome, program.changed(change).kept)
                seen.add((after.outcome, len(left)))
        self.assertGreaterEqual(seen, {(True, 0), (False, 0), (True, 1), (False, 1), (True, 2), (False, 2)})

    def test_from_text_to_the_outcome(self):
        program = read_program("size 2\nfun f 01 01 = arg\nfun g 0 01 = f(0)\nfun h 01 01 = g(arg)\n")
        change = read_change(program, "set f = 1\n")
        self.assertEqual(impact(program, change), [("f", 0, 0, 1), ("g", 0, 0, 1), ("g", 1, 0, 1), ("h", 0, 0, 1),
                                                   ("h", 1, 0, 1)])
        self.assertEqual(list(trail(program, change, "h", 1)), [("h", 1), ("g", 1), ("f", 0)])
        self.assertEqual([culprit(program, change), harmless(program, change)], [["f"], []])
        review = Review(program, change)
        self.assertEqual([review.rest, review.outcome, list(review.finish()), review.outcome], [["g"], None, ["g"], False])
        change = read_change(program, "set h = g(g(arg))\n")
        self.assertEqual(Review(program, change).outcome, True)


if __name__ == "__main__":
    unittest.main()
