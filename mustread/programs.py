"""Contracts, and programs: named functions with contracts and bodies."""

from mustread.errors import BadChange, BadContract, BadName, BadProgram
from mustread.expressions import SIZES, Choose, Const, Expression, is_name, is_value

MOST_FUNCTIONS = 6


def is_size(size):
    """Whether this is the integer 2 or 3."""
    return isinstance(size, int) and not isinstance(size, bool) and size in SIZES


def is_row(row, size):
    """Whether this is an ascending tuple of at least one value."""
    if not isinstance(row, tuple) or len(row) == 0:
        return False
    if not all([is_value(value, size) for value in row]):
        return False
    return all([low < high for low, high in zip(row, row[1:])])


def is_possible(body, size, earlier):
    """Whether this can be the body of a function in a program of this size, after the earlier names."""
    if not isinstance(body, Expression):
        return False
    for node in body.nodes():
        if isinstance(node, Const) and not is_value(node.number, size):
            return False
        if isinstance(node, Choose) and len(node.cases) != size:
            return False
    return all([name in earlier for name in body.calls])


def is_function(pair, size, earlier):
    """Whether this is a pair of a contract and a body that are possible after the earlier names."""
    if not isinstance(pair, tuple) or len(pair) != 2:
        return False
    contract, body = pair
    if not isinstance(contract, Contract) or contract.size != size:
        return False
    return is_possible(body, size, earlier)


class Contract:
    """For each argument, a row of the values that are allowed; it never changes."""

    def __init__(self, rows):
        if not isinstance(rows, tuple) or len(rows) not in SIZES:
            raise BadContract("the rows are not a tuple of 2 or 3")
        if not all([is_row(row, len(rows)) for row in rows]):
            raise BadContract("a row is not an ascending tuple of values")
        self._rows = tuple([tuple(row) for row in rows])

    def __eq__(self, other):
        return isinstance(other, Contract) and self.rows == other.rows

    @property
    def size(self):
        """The number of rows."""
        return len(self._rows)

    @property
    def rows(self):
        """A tuple with the allowed values for each argument."""
        return self._rows

    @classmethod
    def free(cls, size):
        """Return the contract that allows everything."""
        if not is_size(size):
            raise BadContract("the size is not 2 or 3")
        return cls(tuple([tuple(range(size)) for _ in range(size)]))

    @classmethod
    def exactly(cls, results):
        """Return the contract that allows these results only."""
        if not isinstance(results, tuple):
            raise BadContract("the results are not a tuple")
        return cls(tuple([(result,) for result in results]))


class Program:
    """Functions by name, in order, each with a contract and a body; it never changes."""

    def __init__(self, size, functions):
        if not is_size(size):
            raise BadProgram("the size is not 2 or 3", None)
        if not isinstance(functions, dict) or not 1 <= len(functions) <= MOST_FUNCTIONS:
            raise BadProgram("the functions are not a dict of 1 to 6 items", None)
        self._size = size
        self._contracts = {}
        self._bodies = {}
        self._results = {}
        for name, pair in functions.items():
            if not is_name(name) or not is_function(pair, size, list(self._bodies)):
                raise BadProgram("a function that is not possible there", name)
            contract, body = pair
            self._contracts[name] = contract
            self._bodies[name] = body
            self._results[name] = tuple([body.value(argument, self._results) for argument in range(size)])
        self._broken = self._first_broken()

    def __eq__(self, other):
        # Two dicts are equal in any order, so the order of the names is compared too.
        return (isinstance(other, Program) and self.size == other.size and self.names == other.names
                and self._contracts == other._contracts and self._bodies == other._bodies)

    @property
    def size(self):
        """The number of values."""
        return self._size

    @property
    def names(self):
        """The names of the functions, in order."""
        return list(self._bodies)

    @property
    def kept(self):
        """Whether each result is allowed."""
        return self._broken is None

    @property
    def broken(self):
        """The first place, a name and an argument, whose result is not allowed, or None."""
        return self._broken

    def contract(self, name):
        """Return the contract of a function."""
        self._check_name(name)
        return self._contracts[name]

    def body(self, name):
        """Return the body of a function."""
        self._check_name(name)
        return self._bodies[name]

    def results(self, name):
        """Return the results of a function."""
        self._check_name(name)
        return self._results[name]

    def places(self):
        """Yield each name, argument and result, by functions in order, then by arguments."""
        for name in self._bodies:
            for argument, result in enumerate(self._results[name]):
                yield name, argument, result

    def changed(self, change):
        """Return the program with the new bodies of a change."""
        if not isinstance(change, dict) or len(change) == 0:
            raise BadChange("a change is a dict with at least one item")
        for name, body in change.items():
            if not self._is_new_body(name, body):
                raise BadChange("a body that is not a new one, or not possible there")
        functions = {}
        for name in self._bodies:
            functions[name] = (self._contracts[name], change.get(name, self._bodies[name]))
        return Program(self._size, functions)

    def _is_new_body(self, name, body):
        if not self._has(name):
            return False
        names = self.names
        earlier = names[:names.index(name)]
        return is_possible(body, self._size, earlier) and body != self._bodies[name]

    def _has(self, name):
        # What is not a string may have no place in a dict at all.
        return isinstance(name, str) and name in self._bodies

    def _check_name(self, name):
        if not self._has(name):
            raise BadName("not the name of a function of the program")

    def _first_broken(self):
        for name, argument, result in self.places():
            if result not in self._contracts[name].rows[argument]:
                return (name, argument)
        return None
