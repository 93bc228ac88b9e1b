import types
import unittest

import reference
from mustread import reviews as module
from mustread.errors import BadChange, BadChoice, BadName, BadProgram, NothingRead, TooLarge
from mustread.expressions import Arg, Call, Choose, Const
from mustread.programs import Contract, Program
from mustread.reading import is_enough, must_read
from mustread.reviews import Review
from support import CHANGE, FREE, FREE3, NO_CHANGES, NO_NAMES, NO_PROGRAMS, NONE, PROGRAM, ZERO, Case


def pairs(verdict, order="abcd", size=1):
    """What is enough has a and b, or c and d; the body of a has 1, 2 or 4 nodes."""
    bodies = {name: Arg() for name in "abcde"}
    bodies["a"] = {1: Arg(), 2: Call("e", Arg()), 4: Choose.table([0, 1])}[size]
    usual, unusual = (0, 1) if verdict else (1, 0)
    # The verdict turns if a(0) or b(0) turns, and c(0) or d(0) turns.
    second = Choose(Call("c", Const(0)), (Choose(Call("d", Const(0)), (Const(usual), Const(unusual))), Const(unusual)))
    body = Choose(Call("a", Const(0)), (Choose(Call("b", Const(0)), (Const(usual), second)), second))
    parts = {name: (FREE, bodies[name]) for name in ("e" + order if size == 2 else order)}
    return Program(2, {**parts, "k": (NONE, Const(0))}), {"k": body}


class ReviewCase(Case):
    def check(self, review, program, change, seen):
        """All that the document says of a review in which these functions have been read."""
        names = reference.unchanged(program, change)
        self.assertEqual(review.seen, seen)
        self.assertEqual(review.spent, sum(len(list(program.body(name).nodes())) for name in seen))
        decided = is_enough(program, change, [name for name in names if name in seen])
        self.assertIs(review.outcome, reference.with_bodies(program, change).kept if decided else None)
        rest = reference.rest(program, change, seen)
        self.assertEqual(review.rest, rest)
        self.assertEqual(rest == [], decided)

    def left(self, program, change, *seen):
        """What remains, as a word."""
        review = Review.after(program, change, seen)
        self.check(review, program, change, list(seen))
        return "".join(review.rest)


class ExampleTest(Case):
    def test_example_of_the_document(self):
        program = Program(2, {'f': (Contract.free(2), Arg()), 'g': (Contract(((0,), (0, 1))), Call('f', Const(0)))})
        review = Review(program, {'f': Const(1)})
        before = [review.outcome, review.rest]
        self.assertEqual([before, list(review.finish()), review.outcome, review.spent],
                         [[None, ['g']], ['g'], False, 2])

    def test_defined_here(self):
        self.assertEqual(Review.__module__, module.__name__)
        for name in ("seen", "spent", "outcome", "rest", "read", "undo", "finish", "after"):
            self.assertIn(name, vars(Review))

    def test_properties_cannot_be_assigned(self):
        review = Review(PROGRAM, CHANGE)
        for name in ("seen", "spent", "outcome", "rest"):
            with self.assertRaises(AttributeError):
                setattr(review, name, [])


class ReadingsTest(ReviewCase):
    def test_a_new_review(self):
        for verdict in (True, False):
            program, change = pairs(verdict)
            self.check(Review(program, change), program, change, [])

    def test_seen_in_the_order_of_the_readings(self):
        program, change = pairs(True)
        review = Review(program, change)
        seen = []
        for name in "cadb":
            self.assertEqual(review.read(name), program.body(name))
            seen.append(name)
            self.check(review, program, change, seen)
        self.assertEqual(review.seen, ["c", "a", "d", "b"])

    def test_spent(self):
        for size in (1, 2, 4):
            program, change = pairs(True, size=size)
            review = Review(program, change)
            self.assertEqual(review.spent, 0)
            review.read("c")
            self.assertEqual(review.spent, 1)
            review.read("a")
            self.assertEqual(review.spent, 1 + size)
            review.undo()
            self.assertEqual(review.spent, 1)

    def test_outcome(self):
        for verdict in (True, False):
            program, change = pairs(verdict)
            self.assertIs(reference.with_bodies(program, change).kept, verdict)
            review = Review(program, change)
            for name, expected in (("a", None), ("d", None), ("b", verdict), ("c", verdict)):
                review.read(name)
                self.assertIs(review.outcome, expected)

    def test_what_remains(self):
        for verdict in (True, False):
            program, change = pairs(verdict)
            for seen, rest in (("", "ab"), ("a", "b"), ("b", "a"), ("c", "d"), ("d", "c"), ("ac", "b"), ("da", "b"),
                               ("bd", "a"), ("ab", ""), ("dc", ""), ("abd", ""), ("dcba", "")):
                self.assertEqual(self.left(program, change, *seen), rest)
            program, change = pairs(verdict, size=4)
            for seen, rest in (("", "cd"), ("a", "b"), ("b", "cd"), ("c", "d"), ("d", "c"), ("ac", "b"), ("bd", "c"),
                               ("ad", "b"), ("bc", "d")):
                self.assertEqual(self.left(program, change, *seen), rest)

    def test_the_first_of_the_cheapest_sets(self):
        for order, rests in (("abcd", "ab b a d c"), ("cdab", "cd b a d c"), ("acbd", "ab b a d c"),
                             ("dbac", "dc b a d c"), ("bcda", "ba b a d c")):
            for seen, rest in zip(("", "a", "b", "c", "d"), rests.split()):
                self.assertEqual(self.left(*pairs(True, order), *seen), rest)
        for order, rests in (("abcd", "b a d c b b a a"), ("cdab", "b a d c d c d c"), ("dcba", "b a d c d c d c"),
                             ("bacd", "b a d c b b a a"), ("adcb", "b a d c d c a a")):
            for seen, rest in zip(("a", "b", "c", "d", "ac", "ad", "bc", "bd"), rests.split()):
                self.assertEqual(self.left(*pairs(False, order), *seen), rest, (order, seen))

    def test_readings_that_were_of_no_use(self):
        program, change = pairs(True, size=2)
        self.assertEqual(program.names[0], "e")
        for seen, rest in (("", "cd"), ("e", "cd"), ("eb", "a"), ("ec", "d"), ("ea", "b"), ("ae", "b"), ("bea", "")):
            self.assertEqual(self.left(program, change, *seen), rest)
        program = Program(2, {"u": (FREE, Arg()), "f": (FREE, Arg()), "g": (ZERO, Call("f", Const(0)))})
        self.assertEqual(self.left(program, {"f": Const(1)}, "u"), "g")

    def test_what_remains_is_not_the_rest_of_the_first_choice(self):
        # c alone has 7 nodes, a and b have 4 each; once a is read, b is cheaper.
        either = Choose(Call("a", Const(0)), (Choose(Call("b", Const(0)), (Const(0), Const(1))), Const(1)))
        body = Choose(Call("c", Const(0)), (Const(0), either))
        table = Choose.table([0, 1])
        program = Program(2, {"z": (FREE, Arg()), "a": (FREE, table), "b": (FREE, table),
                              "c": (FREE, Choose(Arg(), (table, Const(1)))), "k": (NONE, Const(0))})
        for seen, rest in (("", "c"), ("a", "b"), ("b", "a"), ("z", "c"), ("az", "b"), ("c", "")):
            self.assertEqual(self.left(program, {"k": body}, *seen), rest)

    def test_decided_from_the_beginning(self):
        program = Program(2, {"f": (FREE, Arg()), "h": (ZERO, Const(0))})
        for body, verdict in ((Arg(), True), (Const(1), False)):
            review = Review(program, {"h": body})
            self.assertEqual([review.seen, review.spent, review.rest, list(review.finish())], [[], 0, [], []])
            self.assertIs(review.outcome, verdict)
            self.assertEqual(review.read("f"), Arg())
            self.check(review, program, {"h": body}, ["f"])

    def test_no_unchanged_functions(self):
        program = Program(2, {"f": (NONE, Const(0))})
        review = Review(program, {"f": Const(1)})
        self.check(review, program, {"f": Const(1)}, [])
        self.refuses(BadName, review.read, "f")
        self.refuses(NothingRead, review.undo)
        self.assertEqual(list(review.finish()), [])

    def test_bodies_are_those_of_the_program(self):
        program, change = pairs(True, size=4)
        review = Review(program, change)
        self.assertEqual([review.read("a"), review.read("b")], [Choose.table([0, 1]), Arg()])

    def test_new_lists(self):
        program, change = pairs(True)
        review = Review.after(program, change, ["c"])
        for found in (review.seen, review.rest):
            self.assertIs(type(found), list)
            found.append("a")
            found.reverse()
        self.check(review, program, change, ["c"])
        self.assertIsNot(review.seen, review.seen)
        self.assertIsNot(review.rest, review.rest)

    def test_samples(self):
        decided = set()
        for seed in range(6000, 6150):
            program, change, source = reference.sample(seed, 5)
            try:
                review = Review(program, change)
            except TooLarge:
                self.assertRaises(TooLarge, must_read, program, change)
                continue
            self.assertEqual(review.rest, must_read(program, change).chosen)
            names = reference.unchanged(program, change)
            seen = []
            for _ in range(6):
                if seen and source.random() < 0.3:
                    self.assertEqual(review.undo(), seen.pop())
                elif len(seen) < len(names):
                    name = source.choice([name for name in names if name not in seen])
                    self.assertEqual(review.read(name), program.body(name))
                    seen.append(name)
                self.check(review, program, change, seen)
                decided.add((review.outcome, len(review.rest)))
            rest = review.rest
            self.assertEqual(list(review.finish()), rest)
            self.check(review, program, change, seen + rest)
            self.assertIs(review.outcome, program.changed(change).kept)
        self.assertGreaterEqual(decided, {(True, 0), (False, 0), (None, 1), (None, 2)})


class UndoTest(ReviewCase):
    def test_the_last_reading(self):
        program, change = pairs(True)
        review = Review.after(program, change, ["d", "a", "c"])
        for name, seen in (("c", ["d", "a"]), ("a", ["d"]), ("d", [])):
            self.assertEqual(review.undo(), name)
            self.check(review, program, change, seen)
        self.refuses(NothingRead, review.undo)
        self.check(review, program, change, [])

    def test_read_again(self):
        program, change = pairs(True)
        review = Review.after(program, change, ["d", "a"])
        self.assertEqual([review.undo(), review.read("b"), review.read("a")], ["a", Arg(), Arg()])
        self.check(review, program, change, ["d", "b", "a"])

    def test_readings_of_finish(self):
        program, change = pairs(False)
        review = Review(program, change)
        list(review.finish())
        self.assertEqual([review.undo(), review.undo()], ["b", "a"])
        self.check(review, program, change, [])


class FinishTest(ReviewCase):
    def test_a_generator_of_names_in_order(self):
        for order, names in (("abcd", ["a", "b"]), ("bacd", ["b", "a"]), ("dcba", ["d", "c"])):
            program, change = pairs(True, order)
            review = Review(program, change)
            found = review.finish()
            self.assertIsInstance(found, types.GeneratorType)
            self.assertEqual(list(found), names)
            self.check(review, program, change, names)
            self.assertIs(review.outcome, True)
            self.assertEqual([list(found), list(review.finish())], [[], []])

    def test_each_name_is_read_when_it_is_asked_for(self):
        program, change = pairs(False)
        review = Review(program, change)
        found = review.finish()
        self.check(review, program, change, [])
        self.assertEqual(next(found), "a")
        self.check(review, program, change, ["a"])
        self.assertEqual(next(found), "b")
        self.check(review, program, change, ["a", "b"])
        self.assertRaises(StopIteration, next, found)

    def test_left_early(self):
        program, change = pairs(False)
        review = Review(program, change)
        for name in review.finish():
            break
        self.assertEqual(name, "a")
        self.check(review, program, change, ["a"])
        self.assertEqual(list(review.finish()), ["b"])
        self.assertIs(review.outcome, False)

    def test_after_other_readings(self):
        for seen, names in (("c", "d"), ("db", "a"), ("ca", "b"), ("ab", ""), ("b", "a")):
            program, change = pairs(True)
            review = Review.after(program, change, list(seen))
            self.assertEqual("".join(review.finish()), names)
            self.check(review, program, change, list(seen + names))

    def test_readings_meanwhile(self):
        program, change = pairs(True)
        review = Review(program, change)
        found = review.finish()
        self.assertEqual(next(found), "a")
        review.read("b")
        self.assertEqual(list(found), [])
        self.check(review, program, change, ["a", "b"])
        review = Review(program, change)
        found = review.finish()
        review.read("d")
        self.assertEqual(list(found), ["c"])
        review = Review(program, change)
        found = review.finish()
        self.assertEqual(next(found), "a")
        review.read("c")
        self.assertEqual(list(found), ["b"])
        self.check(review, program, change, ["a", "c", "b"])

    def test_undone_meanwhile(self):
        program, change = pairs(True)
        review = Review(program, change)
        found = review.finish()
        self.assertEqual([next(found), review.undo(), review.read("c"), next(found)], ["a", "a", Arg(), "d"])
        self.assertEqual(list(found), [])
        self.check(review, program, change, ["c", "d"])
        review = Review(program, change)
        found = review.finish()
        self.assertEqual([next(found), next(found), review.undo(), list(found)], ["a", "b", "b", ["b"]])
        self.assertIs(review.outcome, True)

    def test_two_at_once(self):
        program, change = pairs(True)
        review = Review(program, change)
        one, two = review.finish(), review.finish()
        self.assertEqual([next(one), next(two), list(one), list(two)], ["a", "b", [], []])
        self.check(review, program, change, ["a", "b"])


class AfterTest(ReviewCase):
    def test_lists_and_tuples(self):
        program, change = pairs(True)
        for names in ([], (), ["c"], ("c",), ["d", "a"], ("d", "a", "b", "c")):
            review = Review.after(program, change, names)
            self.assertIs(type(review), Review)
            self.check(review, program, change, list(names))

    def test_nothing_is_modified_or_kept(self):
        program, change = pairs(True)
        names, before = ["d", "a"], dict(change)
        review = Review.after(program, change, names)
        list(review.finish())
        review.undo()
        self.assertEqual([names, change, program], [["d", "a"], before, pairs(True)[0]])
        names.append("c")
        names.reverse()
        self.check(review, program, before, ["d", "a"])

    def test_a_change_that_is_altered(self):
        for alter in (dict.clear, lambda change: change.update(a=Const(1)), lambda change: change.update(k=Const(1))):
            program, change = pairs(True)
            reviews = [Review(program, change), Review.after(program, change, ["c"])]
            found = reviews[0].finish()
            alter(change)
            before = pairs(True)[1]
            self.check(reviews[0], program, before, [])
            self.check(reviews[1], program, before, ["c"])
            self.assertEqual([next(found), reviews[1].read("a"), list(found)], ["a", Arg(), ["b"]])
            self.check(reviews[0], program, before, ["a", "b"])
            self.check(reviews[1], program, before, ["c", "a"])

    def test_reviews_are_independent(self):
        program, change = pairs(True)
        one, two = Review(program, change), Review(program, change)
        one.read("b")
        self.check(one, program, change, ["b"])
        self.check(two, program, change, [])


class ErrorsTest(ReviewCase):
    LARGE = Program(3, {**{name: (FREE3, Arg()) for name in "abcf"}, "g": (FREE3, Call("f", Arg()))})

    def test_bad_program(self):
        for program in NO_PROGRAMS:
            for change in (CHANGE, None, {}):
                self.refuses(BadProgram, Review, program, change)
                for names in ([], None, ["x"]):
                    self.refuses(BadProgram, Review.after, program, change, names)

    def test_bad_change(self):
        for program in (PROGRAM, self.LARGE):
            for change in NO_CHANGES:
                self.refuses(BadChange, Review, program, change)
                for names in ([], None, ["x"]):
                    self.refuses(BadChange, Review.after, program, change, names)

    def test_too_large(self):
        self.refuses(TooLarge, Review, self.LARGE, CHANGE)
        for names in ([], None, ["x"], ["a"]):
            self.refuses(TooLarge, Review.after, self.LARGE, CHANGE, names)

    def test_as_large_as_it_may_be(self):
        # 3 * 3 * 3 * 3 * 3 * 3 * 2 = 1458, and 3 * 1458 if one of them allows one value more.
        for rows, small in ((((0, 1), (0,), (0,)), True), (((0, 1), (0, 1), (0,)), False)):
            program = Program(3, {"a": (FREE3, Arg()), "b": (FREE3, Arg()), "c": (Contract(rows), Const(0)),
                                  "f": (FREE3, Arg())})
            if small:
                self.check(Review(program, CHANGE), program, CHANGE, [])
            else:
                self.refuses(TooLarge, Review, program, CHANGE)
                self.refuses(TooLarge, must_read, program, CHANGE)

    def test_bad_choice(self):
        for names in (None, 0, True, "", "a", "ag", {"a"}, {"a": 1}, {}, b"a", Arg(), iter(["a"])):
            self.refuses(BadChoice, Review.after, PROGRAM, CHANGE, names)

    def test_bad_name_in_after(self):
        for name in NO_NAMES + ["f"]:
            for names in ([name], (name,), ["a", name], [name, "a"], ("g", "a", name)):
                self.refuses(BadName, Review.after, PROGRAM, CHANGE, names)
        for names in (["a", "a"], ("g", "a", "g"), [["a"]]):
            self.refuses(BadName, Review.after, PROGRAM, CHANGE, names)

    def test_bad_name_in_read(self):
        review = Review(PROGRAM, CHANGE)
        for name in NO_NAMES + ["f"]:
            self.refuses(BadName, review.read, name)
        self.check(review, PROGRAM, CHANGE, [])
        review.read("g")
        self.refuses(BadName, review.read, "g")
        review.read("a")
        for name in NO_NAMES + ["f", "g", "a"]:
            self.refuses(BadName, review.read, name)
        self.check(review, PROGRAM, CHANGE, ["g", "a"])

    def test_nothing_read(self):
        review = Review(PROGRAM, CHANGE)
        self.refuses(NothingRead, review.undo)
        review.read("g")
        self.assertEqual(review.undo(), "g")
        self.refuses(NothingRead, review.undo)


if __name__ == "__main__":
    unittest.main()
