"""Cases: what is assumed about unread functions, and which results are possible then.

A table has a row for each argument, and a row is the ascending tuple of the results that are possible.
A case is a dict from a pair, "old" or "new" and the name of an unread function, to a tuple with the
result that is assumed for each argument, or None.
"""

from mustread.checks import unchanged_names
from mustread.expressions import Arg, Call, Const

OLD = 0
NEW = 1
SETTLED = 2


def possible_values(node, argument, tables):
    """Return a row: the values that an expression can have for an argument, given a table for each name."""
    if isinstance(node, Const):
        return (node.number,)
    if isinstance(node, Arg):
        return (argument,)
    found = []
    if isinstance(node, Call):
        for value in possible_values(node.argument, argument, tables):
            found.extend(tables[node.name][value])
    else:
        for value in possible_values(node.test, argument, tables):
            found.extend(possible_values(node.cases[value], argument, tables))
    return tuple(sorted(set(found)))


def possible_table(body, size, tables):
    """Return the table of a body, given a table for each name that it calls."""
    return tuple([possible_values(body, argument, tables) for argument in range(size)])


def tables_of(states, at):
    """Return the table of each name, the old ones or the new ones."""
    return {name: state[at] for name, state in states.items()}


def narrowed(rows, row):
    """Return the table with these rows, but with the results that are assumed in a row of a case."""
    return tuple([every if told is None else (told,) for every, told in zip(rows, row)])


def is_single(old, new):
    """Whether for each argument one and the same result is the only possible old and new one."""
    return all([len(row) == 1 and row == other for row, other in zip(old, new)])


def assume(case, word, name, argument, value):
    """Return the case in which this old or new result is assumed, too."""
    row = case[word, name]
    more = {key: case[key] for key in case}
    more[word, name] = row[:argument] + (value,) + row[argument + 1:]
    return more


class Knowledge:
    """What is known of a program and a change when some of the unchanged functions have been read."""

    def __init__(self, program, change, chosen):
        self.program = program
        self.renewed = program.changed(change)
        self.verdict = self.renewed.kept
        self._unchanged = unchanged_names(program, change)
        self.unread = [name for name in self._unchanged if name not in chosen]
        self._called = {}
        for name in program.names:
            calls = program.body(name).calls + self.renewed.body(name).calls
            self._called[name] = sorted(set(calls))
        self._found = {}

    def free_case(self):
        """Return the case in which nothing is assumed."""
        nothing = (None,) * self.program.size
        return {(word, name): nothing for word in ("old", "new") for name in self.unread}

    def possible(self, case):
        """Return the state of each name: its table of old results, that of new ones, and whether it is settled."""
        states = {}
        for name in self._called:
            states[name] = self._state(name, case, states)
        return states

    def is_void(self, states):
        """Whether some function has no possible old result for some argument."""
        return any([() in state[OLD] for state in states.values()])

    def is_kept(self, states):
        """Whether all possible new results are allowed."""
        return all([self._is_within(name, state[NEW]) for name, state in states.items()])

    def is_broken(self, states, name, argument):
        """Whether no possible new result of a function for an argument is allowed."""
        allowed = self.program.contract(name).rows[argument]
        return not any([value in allowed for value in states[name][NEW][argument]])

    def calls_only_settled(self, states, name):
        """Whether all functions that an unchanged function calls are settled."""
        return all([states[called][SETTLED] for called in self._called[name]])

    def _is_within(self, name, table):
        rows = self.program.contract(name).rows
        return all([value in allowed for row, allowed in zip(table, rows) for value in row])

    def _state(self, name, case, states):
        # Many cases share the states of most functions, so each one is computed only once.
        assumed = ()
        if name in self.unread:
            assumed = (case["old", name], case["new", name])
        key = (name, assumed, tuple([states[called] for called in self._called[name]]))
        if key not in self._found:
            self._found[key] = self._fresh_state(name, assumed, states)
        return self._found[key]

    def _fresh_state(self, name, assumed, states):
        same = name in self._unchanged and self.calls_only_settled(states, name)
        if name in self.unread:
            old, new = self._unread_tables(name, assumed)
        else:
            old, new = self._read_tables(name, states)
        if same:
            new = old
        return old, new, same or is_single(old, new)

    def _unread_tables(self, name, assumed):
        size = self.program.size
        every = (tuple(range(size)),) * size
        return narrowed(self.program.contract(name).rows, assumed[OLD]), narrowed(every, assumed[NEW])

    def _read_tables(self, name, states):
        size = self.program.size
        rows = self.program.contract(name).rows
        old = possible_table(self.program.body(name), size, tables_of(states, OLD))
        new = possible_table(self.renewed.body(name), size, tables_of(states, NEW))
        within = [tuple([value for value in row if value in allowed]) for row, allowed in zip(old, rows)]
        return tuple(within), new
