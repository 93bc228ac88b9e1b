"""Expressions: constants, the argument, calls of other functions, and choices."""

from mustread.errors import BadExpression

SIZES = (2, 3)
LONGEST = 8


def is_value(number, size):
    """Whether this is an integer from 0 to size - 1; a boolean is not an integer."""
    return isinstance(number, int) and not isinstance(number, bool) and 0 <= number < size


def is_name(name):
    """Whether this is a string of 1 to 8 lowercase letters."""
    if not isinstance(name, str) or len(name) > LONGEST:
        return False
    return name.isascii() and name.isalpha() and name.islower()


class Expression:
    """The base class of all expressions; they never change."""

    MOST = 60

    def __init__(self, parts, names):
        self._parts = tuple(parts)
        self._size = 1 + sum([part.size for part in self._parts])
        if self._size > Expression.MOST:
            raise BadExpression("an expression with too many nodes")
        found = list(names)
        for part in self._parts:
            found.extend(part.calls)
        self._calls = tuple(sorted(set(found)))

    @property
    def size(self):
        """The number of nodes."""
        return self._size

    @property
    def calls(self):
        """The names that are called, ascending."""
        return list(self._calls)

    def nodes(self):
        """Yield the expression itself, then the nodes of its parts in order."""
        yield self
        for part in self._parts:
            yield from part.nodes()

    def value(self, argument, tables):
        """Return the value for an argument, given the results of the functions that are called."""
        raise NotImplementedError("only the classes below have values")


class Const(Expression):
    """A constant."""

    def __init__(self, number):
        # The size of the program is not known here, so this allows what some program allows.
        if not is_value(number, max(SIZES)):
            raise BadExpression("a constant that is not an integer from 0 to 2")
        super().__init__((), ())
        self.number = number

    def __eq__(self, other):
        return isinstance(other, Const) and self.number == other.number

    def value(self, argument, tables):
        """Return the constant."""
        return self.number


class Arg(Expression):
    """The argument of the function."""

    def __init__(self):
        super().__init__((), ())

    def __eq__(self, other):
        return isinstance(other, Arg)

    def value(self, argument, tables):
        """Return the argument."""
        return argument


class Call(Expression):
    """The result of another function for the value of an expression."""

    def __init__(self, name, argument):
        if not is_name(name):
            raise BadExpression("a call of what is not a name")
        if not isinstance(argument, Expression):
            raise BadExpression("a call whose argument is not an expression")
        super().__init__((argument,), (name,))
        self.name = name
        self.argument = argument

    def __eq__(self, other):
        return isinstance(other, Call) and self.name == other.name and self.argument == other.argument

    def value(self, argument, tables):
        """Return the called function's result for the value of the expression in the call."""
        return tables[self.name][self.argument.value(argument, tables)]


class Choose(Expression):
    """The value of the case whose index is the value of a test."""

    def __init__(self, test, cases):
        if not isinstance(test, Expression):
            raise BadExpression("a choice whose test is not an expression")
        if not isinstance(cases, tuple) or len(cases) not in SIZES:
            raise BadExpression("a choice whose cases are not a tuple of 2 or 3")
        if not all([isinstance(case, Expression) for case in cases]):
            raise BadExpression("a choice with a case that is not an expression")
        super().__init__((test, *cases), ())
        self.test = test
        self.cases = tuple(cases)

    def __eq__(self, other):
        return isinstance(other, Choose) and self.test == other.test and self.cases == other.cases

    def value(self, argument, tables):
        """Return the value of the case that the test chooses; no other case is evaluated."""
        return self.cases[self.test.value(argument, tables)].value(argument, tables)

    @classmethod
    def table(cls, numbers):
        """Return a choice by the argument itself, with a constant for each number."""
        if not isinstance(numbers, (list, tuple)):
            raise BadExpression("a table that is not a list or tuple")
        return cls(Arg(), tuple([Const(number) for number in numbers]))
