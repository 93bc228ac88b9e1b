import random
import re
import unittest

import reference
from mustread import texts as module
from mustread.errors import BadChange, BadExpression, BadProgram, BadText
from mustread.expressions import Arg, Call, Choose, Const, Expression
from mustread.programs import Contract, Program
from mustread.texts import change_text, expression_text, program_text, read_change, read_expression, read_program
from support import CHANGE, FREE, FREE3, NO_CHANGES, NO_PROGRAMS, NONE, PROGRAM, ZERO, Case

NO_STRINGS = [None, True, False, 0, 1, b"", b"arg", b"size 2\n", [], ["arg"], (), ("arg",), {}, {"arg": 1}, {"arg"},
              Arg(), FREE, PROGRAM, str, object()]
FORMS = {
    "0": Const(0), "1": Const(1), "2": Const(2), "arg": Arg(), "f(arg)": Call("f", Arg()), "f(0)": Call("f", Const(0)),
    "arg(arg)": Call("arg", Arg()), "size(fun(set(2)))": Call("size", Call("fun", Call("set", Const(2)))),
    "abcdefgh(1)": Call("abcdefgh", Const(1)), "args(arg)": Call("args", Arg()), "z(0)": Call("z", Const(0)),
    "[arg: 0, 1]": Choose.table([0, 1]), "[arg: 2, 1, 0]": Choose.table((2, 1, 0)),
    "[arg: 1, f(0)]": Choose(Arg(), (Const(1), Call("f", Const(0)))),
    "[f(arg): 1, f(0)]": Choose(Call("f", Arg()), (Const(1), Call("f", Const(0)))),
    "[0: 1, 2, arg]": Choose(Const(0), (Const(1), Const(2), Arg())),
    "[[arg: 0, 1]: [arg: 1, 0], [2: arg, f(arg), 1]]": Choose(Choose.table([0, 1]), (
        Choose.table([1, 0]), Choose(Const(2), (Arg(), Call("f", Arg()), Const(1))))),
    "f([g(1): h(arg), 0])": Call("f", Choose(Call("g", Const(1)), (Call("h", Arg()), Const(0)))),
}
WRONG = [
    "", " ", "3", "9", "-1", "+1", "00", "01", "10", "0.", "1 ", " 1", "(1)", "[1]", "a", "ar", "argg", "args", "argarg",
    "Arg", "ARG", "arg ", " arg", "arg()", "arg 1", "arg1", "1arg", "f", "f()", "f(", "f)", "(", ")", "(arg)", "f(arg",
    "farg)", "f(arg))", "f((arg))", "f (arg)", "f( arg)", "f(arg )", "f(arg) ", "f(arg)1", "f(arg)(arg)", "f(arg, arg)",
    "f(3)", "F(arg)", "f1(arg)", "1(arg)", "f_(arg)", "f-(arg)", "abcdefghi(arg)", "abcdefghijklmnop(arg)", "fG(arg)",
    "[", "]", "[]", "[arg]", "[arg:]", "[arg: ]", "[arg: 0]", "[arg: 0, ]", "[arg: 0, 1, ]", "[arg: , 0, 1]", "[: 0, 1]",
    "[arg: 0, 1, 2, 0]", "[arg: 0, 1, 2, 0, 1]", "[arg:0, 1]", "[arg: 0,1]", "[arg: 1,0]", "[arg : 0, 1]",
    "[arg: 0 , 1]", "[arg:  0, 1]", "[arg: 0,  1]", "[ arg: 0, 1]", "[arg: 0, 1 ]", "[arg: 0, 1] ", "[arg: 0, 1",
    "arg: 0, 1]", "[arg: 0, 1]]", "[[arg: 0, 1]", "[arg, 0, 1]", "[arg: 0: 1]", "[arg: 0; 1]", "(arg: 0, 1)",
    "{arg: 0, 1}", "[arg: 0, 1)", "f[arg]", "f(arg]", "[3: 0, 1]", "[arg: 0, 3]", "[arg 0, 1]", "[arg: 0 1]",
    "[arg: [arg: 0], 1]", "[arg: f(), 1]", "arg\n", "\narg", "1\n", "f(arg)\n", "f(\narg)", "arg\r", "arg\r\n", "arg\t",
    "[arg:\t0, 1]", "[arg:\n0, 1]", "arg\0", "arg#", "0,", "0, 1", "arg: 0, 1", "= arg", "set f = arg",
    # Letters, digits and blanks that are not ASCII, but that Python itself takes for such.
    "\u0661", "\uff11", "\u00b9", "\u00b2", "f(\u0661)", "\u0430rg", "\uff41rg", "\u00e9(arg)", "f\u00e9(arg)",
    "\u00aa(arg)", "f(\u00a0arg)", "arg\u2028", "arg\x85", "\ufeffarg", "\u0444(arg)", "\U0001d41f(arg)",
]


def reads_as_form(text):
    """Whether a text is one of an expression with at most 60 nodes: its innermost parts are taken away, one by one."""
    if re.search("[^a-z0-2()\\[\\]:, ]", text):
        return False
    text, many = re.subn("(?<![a-z])arg(?![a-z(])|[012]", "E", text)
    while text != "E":
        text, more = re.subn("[a-z]{1,8}\\(E\\)|\\[E: E, E(, E)?\\]", "E", text)
        if more == 0:
            return False
        many += more
    return many <= 60


def first_wrong(lines, word):
    """The index of the first line that is not accepted, or None."""
    for row, line in enumerate(lines):
        if word == "fun" and row == 0:
            good = line in ("size 2", "size 3")
        else:
            rows = "( [012]+){2,3}" if word == "fun" else ""
            found = re.fullmatch(f"{word} [a-z]{{1,8}}{rows} = (.*)", line, re.ASCII)
            good = found is not None and reads_as_form(found.groups()[-1])
        if not good:
            return row
    return None


def wide(many):
    """A text with so many nodes, and its expression; each choice adds three nodes and each call one."""
    text, body = "arg", Arg()
    while body.size + 3 <= many:
        text, body = f"[{text}: 0, 1]", Choose(body, (Const(0), Const(1)))
    while body.size < many:
        text, body = f"f({text})", Call("f", body)
    return text, body


class TextCase(Case):
    def bad_text(self, row, read, *arguments):
        with self.assertRaises(BadText) as caught:
            read(*arguments)
        self.assertIs(type(caught.exception), BadText)
        self.assertEqual([caught.exception.row, type(caught.exception.row)], [row, int], arguments)


class ExampleTest(TextCase):
    def test_examples_of_the_document(self):
        self.assertEqual(expression_text(Choose(Call('f', Arg()), (Const(1), Call('f', Const(0))))), '[f(arg): 1, f(0)]')
        text = 'size 2\nfun f 01 01 = arg\nfun g 0 01 = f(0)\n'
        self.assertEqual([program_text(read_program(text)) == text, read_program(text).results('g')], [True, (0, 0)])
        self.bad_text(1, read_program, 'size 2\nfun f 01 01 = [arg: 1,0]\n')
        program = Program(2, {"f": (FREE, Arg())})
        self.assertEqual(change_text(program, {"f": Const(1)}), "set f = 1\n")

    def test_defined_here(self):
        for function in (expression_text, program_text, change_text, read_expression, read_program, read_change):
            self.assertEqual(function.__module__, module.__name__)


class ExpressionTest(TextCase):
    def test_each_form(self):
        for text, body in FORMS.items():
            self.assertEqual(expression_text(body), text)
            self.assertIs(type(expression_text(body)), str)
            found = read_expression(text)
            self.assertEqual(found, body)
            self.assertIs(type(found), type(body))
            self.assertTrue(reads_as_form(text))

    def test_wrong_texts(self):
        for text in WRONG:
            self.assertFalse(reads_as_form(text), text)
            self.bad_text(0, read_expression, text)

    def test_not_a_string(self):
        for text in NO_STRINGS:
            self.bad_text(0, read_expression, text)

    def test_not_an_expression(self):
        for body in NO_PROGRAMS + NO_STRINGS + ["arg", (Arg(),), [Arg()], Expression, Arg, Const]:
            if not isinstance(body, Expression):
                self.refuses(BadExpression, expression_text, body)

    def test_the_most_nodes(self):
        for many in range(1, 61):
            text, body = wide(many)
            self.assertEqual([body.size, expression_text(body)], [many, text])
            self.assertEqual(read_expression(text), body)
        text = wide(60)[0]
        for longer in (f"f({text})", text.replace("arg", "f(arg)"), text.replace("arg", "[arg: 0, 1]"),
                       text.replace("arg", "f(f(arg))"), f"[{text}: 0, 1]", f"[0: 1, {text}]", f"[0: {text}, 1]"):
            self.bad_text(0, read_expression, longer)

    def test_sixty_nodes_in_any_form(self):
        calls = "f(" * 59 + "2" + ")" * 59
        self.assertEqual([read_expression(calls).size, expression_text(read_expression(calls))], [60, calls])
        self.bad_text(0, read_expression, f"f({calls})")
        # Seven tables with 5 nodes each, and two choices with a 0 each around them.
        table = "[arg: 0, 1, 2]"
        body = f"[[{table}: {table}, {table}, 0]: [{table}: {table}, {table}, 0], {table}, 0]"
        self.assertEqual(read_expression(body).size, 41)
        for many in (59, 60):
            text = "f(" * (many - 41) + body + ")" * (many - 41)
            self.assertEqual([read_expression(text).size, expression_text(read_expression(text))], [many, text])
        for text in ("f(" * 20 + body + ")" * 20, f"[{body}: {table}, {table}, {table}, 0]", f"[{body}: {body}, {body}]"):
            self.bad_text(0, read_expression, text)

    def test_very_deep_and_very_long_texts(self):
        for many in (61, 500, 5000, 200000):
            for text in ("f(" * many + "arg" + ")" * many, "[" * many + "arg" + ": 0, 1]" * many, "[" * many,
                         "f(" * many, "[0: " * many, "[0: 1, " * many + "1" + "]" * many, "]" * many, ")" * many,
                         "(" * many, "a" * many, "a" * many + "(arg)", "0" * many, "arg" * many, " " * many,
                         "[arg: 0" + ", 0" * many + "]", "[arg: 0, 1" + "]" * many, "f(arg" + ")" * many, ", " * many):
                self.bad_text(0, read_expression, text)

    def test_mixed_choices(self):
        body = read_expression("[arg: [arg: 0, 1], 2, [1: 0, 1, 2]]")
        self.assertEqual([len(body.cases), len(body.cases[0].cases), len(body.cases[2].cases)], [3, 2, 3])

    def test_samples_and_their_variants(self):
        letters = "012arg()[]:, fz3A="
        read = 0
        for seed in range(400):
            source = random.Random(seed)
            body = reference.sample_body(source, source.choice([2, 3]), ["f", "arg", "longname"], 3)
            text = expression_text(body)
            self.assertEqual(read_expression(text), body)
            for _ in range(30):
                at, other = source.randrange(len(text) + 1), source.choice(letters)
                cut = source.randrange(len(text) + 1)
                for some in (text[:at] + other + text[at:], text[:at] + other + text[at + 1:], text[:at] + text[at + 1:],
                             text[:at] + text[cut:]):
                    if reads_as_form(some):
                        self.assertEqual(expression_text(read_expression(some)), some)
                        read += 1
                    else:
                        self.bad_text(0, read_expression, some)
        self.assertGreater(read, 1000)


class ProgramTest(TextCase):
    def test_lines(self):
        some = Contract(((0, 1, 2), (2,), (0, 2)))
        program = Program(3, {"size": (FREE3, Arg()), "arg": (some, Choose.table([1, 2, 0])),
                              "fun": (FREE3, Call("arg", Call("size", Arg()))),
                              "abcdefgh": (Contract.exactly((0, 1, 2)), Arg())})
        text = ("size 3\nfun size 012 012 012 = arg\nfun arg 012 2 02 = [arg: 1, 2, 0]\n"
                "fun fun 012 012 012 = arg(size(arg))\nfun abcdefgh 0 1 2 = arg\n")
        self.assertEqual(program_text(program), text)
        self.assertIs(type(program_text(program)), str)
        found = read_program(text)
        self.assertIs(type(found), Program)
        self.assertEqual([found, found.names], [program, ["size", "arg", "fun", "abcdefgh"]])

    def test_the_order_of_the_functions(self):
        for names in ("zyx", "xyz", "yzx"):
            text = "size 2\n" + "".join(f"fun {name} 01 01 = arg\n" for name in names)
            self.assertEqual([read_program(text).names, program_text(read_program(text))], [list(names), text])

    def test_all_contracts(self):
        for size, rows in ((2, ("0", "1", "01")), (3, ("0", "1", "2", "01", "02", "12", "012"))):
            for first in rows:
                for last in rows:
                    words = " ".join([first] * (size - 1) + [last])
                    text = f"size {size}\nfun f {words} = arg\n"
                    program = read_program(text)
                    expected = tuple(tuple(int(digit) for digit in word) for word in words.split())
                    self.assertEqual([program.contract("f").rows, program_text(program)], [expected, text])

    def test_contracts_need_not_be_kept(self):
        program = Program(2, {"f": (NONE, Arg()), "g": (ZERO, Const(1))})
        text = "size 2\nfun f 0 0 = arg\nfun g 0 01 = 1\n"
        self.assertEqual([program.broken, program_text(program), read_program(text)], [("f", 1), text, program])

    def test_one_to_six_functions(self):
        lines = [f"fun {name} 01 01 = arg\n" for name in "abcdefg"]
        for many in range(1, 7):
            text = "size 2\n" + "".join(lines[:many])
            self.assertEqual([len(read_program(text).names), program_text(read_program(text))], [many, text])
        self.bad_text(0, read_program, "size 2\n" + "".join(lines))
        self.bad_text(0, read_program, "size 2\n")
        self.bad_text(0, read_program, "size 3\n")

    def test_sixty_nodes(self):
        text = "size 2\nfun f 01 01 = arg\nfun g 01 01 = "
        self.assertEqual(read_program(text + wide(60)[0] + "\n").body("g"), wide(60)[1])
        self.bad_text(2, read_program, text + "f(" + wide(60)[0] + ")\n")

    def test_first_lines_that_are_not_accepted(self):
        rest = "fun f 01 01 = arg\n"
        for line in ("", "size", "size ", "size 1", "size 4", "size 0", "size 22", "size 2 ", " size 2", "size  2", "size2",
                     "Size 2", "size 2\r", "size \u0662", "size \uff12", "size\t2", "size two", "fun f 01 01 = arg", "2",
                     "size 2 3", "size 2.", "size +2", "\ufeffsize 2", "size 3 fun f 01 01 = arg"):
            self.bad_text(0, read_program, line + "\n" + rest)
            self.bad_text(0, read_program, line + "\n")
            self.bad_text(0, read_program, line + "\nabc\n")

    def test_other_lines_that_are_not_accepted(self):
        for line in ("", " ", "fun", "fun f", "fun f 01", "fun f 01 01", "fun f 01 01 =", "fun f 01 01 = ", "fun f = arg",
                     "fun f 01 = arg", "fun f 01 01 01 01 = arg", "fun f 01 01 arg", "fun f 01 01= arg", "fun f 01 01 =arg",
                     "fun f 01 01=arg", "fun f  01 01 = arg", "fun  f 01 01 = arg", "fun f 01  01 = arg",
                     "fun f 01 01  = arg", "fun f 01 01 =  arg", " fun f 01 01 = arg", "fun f 01 01 = arg ",
                     "fun f 01 01 == arg", "fun f 01 01 = = arg", "fun f 01 01 = arg = arg", "fun f 01 01 : arg",
                     "fun 01 01 = arg", "fun  01 01 = arg", "fun F 01 01 = arg", "fun f1 01 01 = arg",
                     "fun abcdefghi 01 01 = arg", "fun f_ 01 01 = arg", "fun f 03 01 = arg", "fun f 01 3 = arg",
                     "fun f 0-1 01 = arg", "fun f 0,1 01 = arg", "fun f (0) 01 = arg", "fun f a b = arg", "fun f 01 01 = f",
                     "fun f 01 01 = 3", "fun f 01 01 = [arg: 0]", "fun f 01 01 = [arg: 1,0]", "fun f 01 01 = arg\r",
                     "fun\tf 01 01 = arg", "fun f\t01 01 = arg", "set f = arg", "set f 01 01 = arg", "Fun f 01 01 = arg",
                     "size 2", "f 01 01 = arg", "fun f fun 01 01 = arg", "fun f 0\u0661 01 = arg", "fun f 01 \uff10 = arg",
                     "fun f 01 \u00b9 = arg", "fun \u00e9 01 01 = arg", "fun \uff46 01 01 = arg", "fun f 01 01 = \u0661",
                     "fun f 01 01\u00a0= arg", "fun f 01 01 = arg\x85", "fun f 01 01 = arg\u2028", "fun f 01 01 = arg\x0b",
                     "fun f 01 01 = arg\x0c", "fun f 01 01 = arg\x1c", "fun f 01 01 = arg#", "# fun f 01 01 = arg"):
            self.assertEqual(first_wrong(["size 2", line], "fun"), 1, line)
            for end in ("", "abc", "abc\n", "fun g 01 01 = arg\n", "fun f 01 01 = arg"):
                self.bad_text(1, read_program, f"size 2\n{line}\n{end}")
            for many in (1, 2, 9):
                good = "".join(f"fun {name} 01 01 = arg\n" for name in "abcdeghij"[:many])
                self.bad_text(many + 1, read_program, f"size 2\n{good}{line}\n{good}")

    def test_lines_that_are_accepted_in_no_program(self):
        # The characters behind the last line feed count only if all lines are accepted.
        for line in ("fun f 10 01 = arg", "fun f 00 01 = arg", "fun f 01 0 1 = arg", "fun f 012 01 = arg", "fun f 2 2 = 0",
                     "fun f 01 01 = 2", "fun f 01 01 = [arg: 0, 1, 1]", "fun f 01 01 = [arg: [0: 0, 1, 0], 1]",
                     "fun f 01 01 = f(arg)", "fun f 01 01 = g(arg)", "fun f 01 01 = later(arg)", "fun a 01 01 = 0",
                     "fun f 01 01 = arg(arg)", "fun f 210 210 210 = 2", "fun f 0120 01 = arg",
                     "fun f " + "01" * 1000 + " 0 = arg", "fun f 01 01 = a(2)"):
            self.assertIsNone(first_wrong(["size 2", line], "fun"), line)
            text = f"size 2\nfun a 01 01 = arg\n{line}\nfun later 01 01 = arg\n"
            self.bad_text(0, read_program, text)
            self.bad_text(4, read_program, text + "fun")
            self.bad_text(4, read_program, text + "\n")
            self.bad_text(4, read_program, text + "abc\nfun z 01 01 = arg\n")
        self.bad_text(0, read_program, "size 3\nfun f 01 01 = arg\n")
        self.bad_text(0, read_program, "size 3\nfun f 012 012 012 = [arg: 0, 1]\n")
        self.bad_text(0, read_program, "size 2\nfun f 012 012 012 = arg\n")
        self.assertEqual(read_program("size 3\nfun f 012 012 012 = 2\n").results("f"), (2, 2, 2))

    def test_a_name_twice(self):
        for names in ("ff", "fgf", "fgg", "abcdefa", "aaaaaaaaaa"):
            self.bad_text(0, read_program, "size 2\n" + "".join(f"fun {name} 01 01 = arg\n" for name in names))

    def test_characters_behind_the_last_line_feed(self):
        lines = ["size 2\n", "fun f 01 01 = arg\n", "fun g 01 01 = f(arg)\n"]
        for many in range(4):
            for end in ("x", " ", "fun", "fun h 01 01 = arg", "size 2", "\r", "size 3"):
                self.bad_text(many, read_program, "".join(lines[:many]) + end)
        for text in ("size 2\nfun f 01 01 = arg", "size 2\nfun f 01 01 = arg\nfun g 0 0 = f(arg)"):
            self.bad_text(text.count("\n"), read_program, text)
        # A carriage return is a character of its line.
        self.bad_text(0, read_program, "size 2\r\nfun f 01 01 = arg\r\n")

    def test_no_line(self):
        for text in ("", "size 2", "size 3", "x", " ", "fun f 01 01 = arg"):
            self.bad_text(0, read_program, text)
        self.bad_text(0, read_program, "\n")
        self.bad_text(1, read_program, "size 2\n\n")
        self.bad_text(2, read_program, "size 2\nfun f 01 01 = arg\n\n")
        self.bad_text(0, read_program, "\nsize 2\nfun f 01 01 = arg\n")

    def test_not_a_string(self):
        for text in NO_STRINGS:
            self.bad_text(0, read_program, text)

    def test_not_a_program(self):
        for program in NO_PROGRAMS + NO_STRINGS + ["size 2\n"]:
            if not isinstance(program, Program):
                self.refuses(BadProgram, program_text, program)

    def test_very_long_and_very_deep_texts(self):
        many = 20000
        for line, row in (("fun f " + "01" * many + " 01 = arg", 0), ("fun " + "f" * many + " 01 01 = arg", 1),
                          ("fun f" + " 01" * many + " = arg", 1), ("fun f 01 01 = " + "f(" * many + "0" + ")" * many, 1),
                          ("fun f 01 01 = " + "[" * many, 1), (" " * many, 1), ("fun f 01 01" + " = " * many, 1)):
            self.bad_text(row, read_program, f"size 2\n{line}\n")
        text = "size 2\n" + "fun f 01 01 = arg\n" * many
        self.bad_text(0, read_program, text)
        self.bad_text(many + 1, read_program, text + "\n")
        self.bad_text(many + 1, read_program, text + "fun f\n")
        self.bad_text(1, read_program, "size 2\n" + "\n" * many)

    def test_samples_and_their_variants(self):
        seen = {"read": 0, "row": 0, "end": 0, "whole": 0}
        for seed in range(7000, 7150):
            program, _, source = reference.sample(seed, 5)
            text = program_text(program)
            self.assertEqual(read_program(text), program)
            for some in variants(source, text, "012arg()[]:, fun=size\n"):
                seen[self.check_program(some)] += 1
        self.assertTrue(all(many > 50 for many in seen.values()), seen)

    def check_program(self, text):
        *lines, end = text.split("\n")
        row = first_wrong(lines, "fun")
        if row is not None:
            self.bad_text(row, read_program, text)
            return "row"
        if end or not lines:
            self.bad_text(len(lines), read_program, text)
            return "end"
        try:
            self.assertEqual(program_text(read_program(text)), text)
            return "read"
        except BadText as error:
            self.assertEqual(error.row, 0)
            return "whole"

    def test_nothing_is_modified(self):
        program = Program(2, {"f": (NONE, Arg())})
        program_text(program)
        self.assertEqual(program, Program(2, {"f": (NONE, Arg())}))


def variants(source, text, letters):
    """Texts that are like a text, but for a character, a few characters or a line."""
    found = []
    for _ in range(12):
        at, other = source.randrange(len(text) + 1), source.choice(letters)
        found += [text[:at] + other + text[at:], text[:at] + other + text[at + 1:], text[:at] + text[at + 1:]]
        lines = text.split("\n")
        one, two = source.randrange(len(lines)), source.randrange(len(lines))
        found.append("\n".join(lines[:one] + lines[one + 1:]))
        found.append("\n".join(lines[:one] + [lines[two]] + lines[one:]))
        lines[one], lines[two] = lines[two], lines[one]
        found.append("\n".join(lines))
    return found


class ChangeTest(TextCase):
    PARTS = Program(2, {"f": (FREE, Arg()), "set": (FREE, Const(0)), "arg": (FREE, Arg()), "g": (FREE, Call("f", Arg()))})

    def test_lines_in_the_order_of_the_program(self):
        change = {"g": Call("arg", Call("set", Arg())), "set": Call("f", Arg()), "f": Choose.table([1, 0])}
        text = "set f = [arg: 1, 0]\nset set = f(arg)\nset g = arg(set(arg))\n"
        self.assertEqual(change_text(self.PARTS, change), text)
        self.assertEqual(list(change), ["g", "set", "f"])
        found = read_change(self.PARTS, text)
        self.assertIs(type(found), dict)
        self.assertEqual(list(found.items()), [(name, change[name]) for name in ("f", "set", "g")])
        self.assertEqual(change_text(self.PARTS, found), text)

    def test_single_functions(self):
        for name, body, text in (("f", Const(1), "set f = 1\n"), ("set", Arg(), "set set = arg\n"),
                                 ("arg", Call("f", Arg()), "set arg = f(arg)\n"), ("g", Arg(), "set g = arg\n")):
            self.assertEqual(change_text(self.PARTS, {name: body}), text)
            self.assertEqual(read_change(self.PARTS, text), {name: body})
            self.assertIsNot(read_change(self.PARTS, text), read_change(self.PARTS, text))

    def test_the_changed_program_need_not_keep_its_contracts(self):
        program = Program(2, {"f": (NONE, Const(0))})
        self.assertEqual(change_text(program, {"f": Arg()}), "set f = arg\n")
        self.assertEqual(read_change(program, "set f = arg\n"), {"f": Arg()})

    def test_lines_that_are_not_accepted(self):
        for line in ("", " ", "set", "set f", "set f =", "set f = ", "set f 1", "set f= 1", "set f =1", "set f=1",
                     "set  f = 1", "set f  = 1", "set f =  1", " set f = 1", "set f = 1 ", "set f = 3", "set f = 1\r",
                     "set = 1", "set  = 1", "set F = 1", "set f1 = 1", "set abcdefghi = 1", "set f 01 01 = 1", "set f 0 = 1",
                     "fun f 01 01 = 1", "fun f = 1", "Set f = 1", "f = 1", "set f = f", "set f = [arg: 0]",
                     "set f = [arg: 1,0]", "set f == 1", "set f = = 1", "set f = 1 = 1", "set f g = 1", "size 2", "set\tf = 1",
                     "set f = \u0661", "set \u00e9 = 1", "set f\u00a0= 1", "set f = 1\x85", "set f = 1\u2028", "set f : 1",
                     "set f = " + "f(" + wide(60)[0] + ")", "set f = " + "f(" * 999 + "1" + ")" * 999):
            self.assertEqual(first_wrong([line], "set"), 0, line)
            for end in ("", "abc", "abc\n", "set g = 1\n"):
                self.bad_text(0, read_change, self.PARTS, f"{line}\n{end}")
                self.bad_text(1, read_change, self.PARTS, f"set f = 1\n{line}\n{end}")
                self.bad_text(3, read_change, self.PARTS, f"set x = 2\nset x = 2\nset x = 2\n{line}\n{end}")

    def test_lines_that_are_accepted_in_no_change(self):
        for line in ("set x = 1", "set size = 1", "set f = arg", "set f = 2", "set f = [arg: 0, 1, 1]", "set f = f(arg)",
                     "set f = set(arg)", "set f = g(arg)", "set f = x(arg)", "set f = [arg: 1, [1: 0, 1, 0]]",
                     "set f = 1\nset f = 0", "set f = 1\nset f = 1", "set g = 1\nset f = 1", "set arg = 1\nset set = 1",
                     "set f = 1\nset g = 1\nset arg = 1", "set f = 1\nset x = 1", "set x = 1\nset f = 1",
                     "set f = 1\nset set = 0", "set f = 1\nset g = g(arg)"):
            lines = line.split("\n")
            self.assertIsNone(first_wrong(lines, "set"))
            self.bad_text(0, read_change, self.PARTS, line + "\n")
            for end in ("x", "\n", " ", "set f = 1", "abc\nset g = 1\n"):
                self.bad_text(len(lines), read_change, self.PARTS, f"{line}\n{end}")

    def test_no_line(self):
        self.bad_text(0, read_change, self.PARTS, "")
        self.bad_text(0, read_change, self.PARTS, "\n")
        self.bad_text(0, read_change, self.PARTS, "set f = 1")
        self.bad_text(1, read_change, self.PARTS, "set f = 1\nset g = 1")
        self.bad_text(2, read_change, self.PARTS, "set f = 1\nset g = 1\n\n")

    def test_three_values(self):
        program = Program(3, {"f": (FREE3, Arg())})
        self.assertEqual(read_change(program, "set f = [2: 0, 1, 2]\n"), {"f": Choose(Const(2), Choose.table([0, 1, 2]).cases)})
        self.assertEqual(read_change(program, "set f = 2\n"), {"f": Const(2)})
        self.bad_text(0, read_change, program, "set f = [arg: 0, 1]\n")

    def test_not_a_string(self):
        for text in NO_STRINGS:
            self.bad_text(0, read_change, self.PARTS, text)

    def test_bad_program(self):
        for program in NO_PROGRAMS:
            for other in ("set f = 1\n", "abc\n", "", None):
                self.refuses(BadProgram, read_change, program, other)
            for change in (CHANGE, None, {}):
                self.refuses(BadProgram, change_text, program, change)

    def test_bad_change(self):
        for change in NO_CHANGES:
            self.refuses(BadChange, change_text, PROGRAM, change)

    def test_many_lines(self):
        many = 20000
        self.bad_text(0, read_change, self.PARTS, "set f = 1\n" * many)
        self.bad_text(many, read_change, self.PARTS, "set f = 1\n" * many + "set")

    def test_samples_and_their_variants(self):
        seen = {"read": 0, "row": 0, "end": 0, "whole": 0}
        for seed in range(8000, 8200):
            program, change, source = reference.sample(seed, 6)
            text = change_text(program, change)
            found = read_change(program, text)
            self.assertEqual([found, list(found)], [change, [name for name in program.names if name in change]])
            for some in variants(source, text, "012arg()[]:, set=abcdef\n"):
                seen[self.check_change(program, some)] += 1
        self.assertTrue(all(many > 50 for many in seen.values()), seen)

    def check_change(self, program, text):
        *lines, end = text.split("\n")
        row = first_wrong(lines, "set")
        if row is not None:
            self.bad_text(row, read_change, program, text)
            return "row"
        if end:
            self.bad_text(len(lines), read_change, program, text)
            return "end"
        names = [line.split(" ")[1] for line in lines]
        bodies = {name: read_expression(line.split(" = ")[1]) for name, line in zip(names, lines)}
        try:
            program.changed(bodies)
            good = names == [name for name in program.names if name in bodies]
        except BadChange:
            good = False
        if not good:
            self.bad_text(0, read_change, program, text)
            return "whole"
        self.assertEqual(read_change(program, text), bodies)
        self.assertEqual(change_text(program, read_change(program, text)), text)
        return "read"


if __name__ == "__main__":
    unittest.main()
