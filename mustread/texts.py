"""Texts of expressions, programs and changes: each is written in one way, and nothing else can be read."""

from mustread.checks import changed_program, check_program
from mustread.errors import BadChange, BadContract, BadExpression, BadProgram, BadText
from mustread.expressions import SIZES, Arg, Call, Choose, Const, Expression, is_name
from mustread.programs import Contract, Program

FIRST_LINES = {"size 2": 2, "size 3": 3}
DIGITS = ("0", "1", "2")


def expression_text(expression):
    """Return the text of an expression."""
    if isinstance(expression, Const):
        return str(expression.number)
    if isinstance(expression, Arg):
        return "arg"
    if isinstance(expression, Call):
        return f"{expression.name}({expression_text(expression.argument)})"
    if isinstance(expression, Choose):
        cases = ", ".join([expression_text(case) for case in expression.cases])
        return f"[{expression_text(expression.test)}: {cases}]"
    raise BadExpression("not an expression")


def program_text(program):
    """Return the text of a program: a line with its size, and a line for each function."""
    if not isinstance(program, Program):
        raise BadProgram("not a program")
    lines = [f"size {program.size}\n"]
    for name in program.names:
        rows = " ".join(["".join([str(value) for value in row]) for row in program.contract(name).rows])
        lines.append(f"fun {name} {rows} = {expression_text(program.body(name))}\n")
    return "".join(lines)


def change_text(program, change):
    """Return the text of a change: a line for each function, in the order of the program."""
    changed_program(program, change)
    names = [name for name in program.names if name in change]
    return "".join([f"set {name} = {expression_text(change[name])}\n" for name in names])


def read_expression(text):
    """Return the expression with this text."""
    if not isinstance(text, str):
        raise BadText("not a string")
    expression, end = node_at(text, 0, Expression.MOST)
    if end != len(text):
        raise BadText("characters behind an expression")
    return expression


def read_program(text):
    """Return the program with this text; it need not keep its contracts."""
    lines = lines_of(text)
    if lines[0] not in FIRST_LINES:
        raise BadText("a program without a line for its size")
    functions = functions_in(lines, 1, "fun", SIZES)
    try:
        return program_of(FIRST_LINES[lines[0]], functions)
    except (BadContract, BadProgram):
        raise BadText("lines that do not form a program") from None


def read_change(program, text):
    """Return the change of a program with this text."""
    check_program(program)
    functions = functions_in(lines_of(text), 0, "set", (0,))
    if list(functions) != [name for name in program.names if name in functions]:
        raise BadText("names that are not those of the program, in order")
    change = {name: body for name, (_, body) in functions.items()}
    try:
        program.changed(change)
    except BadChange:
        raise BadText("lines that do not form a change") from None
    return change


def lines_of(text):
    """Return the lines of a text, and, as the last item, the characters behind the last line feed."""
    if not isinstance(text, str):
        raise BadText("not a string")
    # Other characters at which Python could break a line are not allowed in any line.
    return text.split("\n")


def functions_in(lines, first, word, counts):
    """Return a dict from the name to the rows and the body for each line from the first one on."""
    found = []
    for index, line in enumerate(lines[first:-1]):
        try:
            found.append(function_in(line, word, counts))
        except BadText:
            raise BadText("a line that is not accepted", first + index) from None
    if lines[-1] != "":
        raise BadText("characters behind the last line feed", len(lines) - 1)
    functions = {name: (rows, body) for name, rows, body in found}
    if len(functions) < len(found):
        raise BadText("a name with several lines")
    return functions


def function_in(line, word, counts):
    """Return the name, the rows and the body of a line that begins with this word and has so many rows."""
    head, _, tail = line.partition(" = ")
    words = head.split(" ")
    rows = words[2:]
    if len(words) < 2 or words[0] != word or not is_name(words[1]):
        raise BadText("a line without its word and a name")
    if len(rows) not in counts or not all([is_digits(row) for row in rows]):
        raise BadText("a line with other rows")
    return words[1], rows, read_expression(tail)


def is_digits(row):
    """Whether this is the text of a row, in any order."""
    return len(row) > 0 and all([digit in DIGITS for digit in row])


def program_of(size, functions):
    """Return the program with these rows and bodies."""
    pairs = {}
    for name, (rows, body) in functions.items():
        contract = Contract(tuple([tuple([int(digit) for digit in row]) for row in rows]))
        pairs[name] = (contract, body)
    return Program(size, pairs)


def node_at(text, start, most):
    """Return the expression that begins at an index and has at most so many nodes, and the index behind it."""
    # A text may have more brackets than calls can be nested, so the nodes are counted on the way.
    if most < 1:
        raise BadText("an expression with too many nodes")
    first = text[start:start + 1]
    if first in DIGITS:
        return Const(int(first)), start + 1
    if first == "[":
        return choice_at(text, start, most)
    word = word_at(text, start)
    end = start + len(word)
    if len(word) > 0 and text[end:end + 1] == "(":
        return call_at(text, start, word, most)
    if word != "arg":
        raise BadText("neither a number nor the argument, a call or a choice")
    return Arg(), end


def call_at(text, start, name, most):
    """Return the call of a name that begins at an index, and the index behind it."""
    argument, end = node_at(text, start + len(name) + 1, most - 1)
    if text[end:end + 1] != ")":
        raise BadText("a call without its end")
    return Call(name, argument), end + 1


def choice_at(text, start, most):
    """Return the choice that begins at an index, and the index behind it."""
    test, end = node_at(text, start + 1, most - 1)
    left = most - 1 - test.size
    cases = []
    mark = ": "
    while text[end:end + 2] == mark:
        part, end = node_at(text, end + 2, left)
        left = left - part.size
        cases.append(part)
        mark = ", "
    if text[end:end + 1] != "]" or len(cases) not in SIZES:
        raise BadText("a choice without its end or with too few or too many cases")
    return Choose(test, tuple(cases)), end + 1


def word_at(text, start):
    """Return the letters from an index on, but not more than a name has."""
    end = start
    while end < len(text) and is_name(text[start:end + 1]):
        end += 1
    return text[start:end]
