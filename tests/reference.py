"""What the document says, in its plainest and slowest form; the tests compare the program with it."""

import random
from itertools import combinations, product

from mustread.errors import BadChange
from mustread.expressions import Arg, Call, Choose, Const
from mustread.programs import Contract, Program
from mustread.reading import is_enough
from mustread.rivals import differing


def unchanged(program, change):
    return [name for name in program.names if name not in change]


def sets_of(names):
    return [list(chosen) for many in range(len(names) + 1) for chosen in combinations(names, many)]


def with_bodies(program, bodies):
    return Program(program.size, {name: (program.contract(name), bodies.get(name, program.body(name)))
                                  for name in program.names})


# Rivals: of all bodies those that make a difference, each pair of old and new results that some body can have.

def other_bodies(program, name):
    tables = [Choose.table(numbers) for numbers in product(range(program.size), repeat=program.size)]
    found = [program.body(name)] + tables
    for called in program.body(name).calls:
        for argument in range(program.size):
            for cases in product(tables, repeat=program.size):
                found.append(Choose(Call(called, Const(argument)), cases))
    return found


def many_rivals(program, change):
    many, size = 1, program.size
    for name in unchanged(program, change):
        tables = size ** size
        many *= 1 + tables + len(program.body(name).calls) * size * tables ** size
    return many


def refuting_sets(program, change):
    """For each rival with the other verdict, the names at which it differs."""
    verdict = program.changed(change).kept
    names = unchanged(program, change)
    found = set()
    for bodies in product(*[other_bodies(program, name) for name in names]):
        rival = with_bodies(program, dict(zip(names, bodies)))
        if rival.kept and rival.changed(change).kept != verdict:
            found.add(tuple(differing(program, rival)))
    return found


def enough_by_rivals(refuting, chosen):
    return all(any(name in chosen for name in names) for names in refuting)


def cheapest_by_rivals(program, change, refuting):
    indices = [program.names.index(name) for name in unchanged(program, change)]
    best = []
    for chosen in sets_of(indices):
        names = [program.names[index] for index in chosen]
        if enough_by_rivals(refuting, names):
            best.append((sum(program.body(name).size for name in names), chosen, names))
    return min(best)[2]


# Cases and derivations: point [6] and point [7], word by word, with sets.

def values(node, argument, tables):
    if isinstance(node, Const):
        return {node.number}
    if isinstance(node, Arg):
        return {argument}
    if isinstance(node, Call):
        return {result for at in values(node.argument, argument, tables) for result in tables[node.name, at]}
    return {result for at in values(node.test, argument, tables) for result in values(node.cases[at], argument, tables)}


class Possible:
    """The possible old and new results, by name and argument, and the settled functions."""

    def __init__(self, program, change, chosen, assumed):
        self.old, self.new, self.settled = {}, {}, set()
        size = program.size
        for name in program.names:
            body = program.body(name)
            calm = name not in change and all(called in self.settled for called in body.calls)
            for at in range(size):
                allowed = set(program.contract(name).rows[at])
                if name not in change and name not in chosen:
                    old = {assumed["old", name, at]} if ("old", name, at) in assumed else allowed
                    new = {assumed["new", name, at]} if ("new", name, at) in assumed else set(range(size))
                else:
                    old = values(body, at, self.old) & allowed
                    new = values(change.get(name, body), at, self.new)
                self.old[name, at] = old
                self.new[name, at] = old if calm else new
            one = all(len(self.old[name, at]) == 1 and self.old[name, at] == self.new[name, at] for at in range(size))
            if calm or one:
                self.settled.add(name)


def correct(program, change, chosen, tree, assumed):
    verdict = program.changed(change).kept
    possible = Possible(program, change, chosen, assumed)
    allowed = {(name, at): set(program.contract(name).rows[at])
               for name in program.names for at in range(program.size)}
    word, *items = tree
    if word == "void":
        return any(not results for results in possible.old.values())
    if word == "kept":
        return verdict and all(possible.new[place] <= allowed[place] for place in allowed)
    if word == "broken":
        return not verdict and not possible.new[items[0], items[1]] & allowed[items[0], items[1]]
    name, at, trees = items
    if name in change or name in chosen or (word, name, at) in assumed:
        return False
    if word == "new" and all(called in possible.settled for called in program.body(name).calls):
        return False
    told = program.contract(name).rows[at] if word == "old" else tuple(range(program.size))
    return len(told) == len(trees) and all(
        [correct(program, change, chosen, part, {**assumed, (word, name, at): value})
         for value, part in zip(told, trees)])


# Impact: the calls are recorded where the bodies look them up.

class Recorder:
    """Results of a function that note for which arguments they are read."""

    def __init__(self, name, results, calls):
        self.name, self.results, self.calls = name, results, calls

    def __getitem__(self, argument):
        self.calls.append((self.name, argument))
        return self.results[argument]


def trail(program, change, name, argument):
    found = [(name, argument)]
    new = with_bodies(program, change)
    while name not in change:
        calls = []
        tables = {known: Recorder(known, program.results(known), calls) for known in program.names}
        program.body(name).value(argument, tables)
        for name, argument in calls:
            if program.results(name)[argument] != new.results(name)[argument]:
                break
        found.append((name, argument))
    return found


def parts(program, change):
    """The culprit and the harmless part."""
    bad, good = [], []
    for indices in sets_of([at for at, name in enumerate(program.names) if name in change]):
        names = [program.names[at] for at in indices]
        if with_bodies(program, {name: change[name] for name in names}).kept:
            good.append((-len(names), indices, names))
        else:
            bad.append((len(names), indices, names))
    whole = with_bodies(program, change).kept
    return (None if whole else min(bad)[2]), min(good)[2]


# Reviews: of all sets of the other unchanged functions, those that are enough with what has been read.

def rest(program, change, seen):
    names = unchanged(program, change)
    found = []
    for indices in sets_of([at for at, name in enumerate(program.names) if name in names and name not in seen]):
        chosen = [program.names[at] for at in indices]
        if is_enough(program, change, [name for name in names if name in seen or name in chosen]):
            found.append((sum(len(list(program.body(name).nodes())) for name in chosen), indices, chosen))
    return min(found)[2]


# Samples: the same ones in each run, as each sample has its own seed.

def sample_body(source, size, calls, depth):
    kind = source.random()
    if depth == 0 or kind < 0.3:
        return Arg() if source.random() < 0.6 else Const(source.randrange(size))
    if kind < 0.75 and calls:
        return Call(source.choice(calls), sample_body(source, size, calls, depth - 1))
    parts = [sample_body(source, size, calls, depth - 1) for _ in range(size + 1)]
    return Choose(parts[0], tuple(parts[1:]))


def sample_program(source, size, many):
    functions = {}
    for name in "abcdef"[:many]:
        body = sample_body(source, size, list(functions), 2)
        free = Program(size, {**functions, name: (Contract.free(size), body)})
        rows = [tuple(value for value in range(size) if value == result or source.random() < 0.4)
                for result in free.results(name)]
        functions[name] = (Contract(tuple(rows)), body)
    return Program(size, functions)


def sample_change(source, program):
    while True:
        change = {}
        for at, name in enumerate(program.names):
            if source.random() < 0.35:
                change[name] = sample_body(source, program.size, program.names[:at], 2)
        try:
            program.changed(change)
            return change
        except BadChange:
            pass


def sample(seed, most=4):
    source = random.Random(seed)
    program = sample_program(source, source.choice([2, 2, 3]), source.randrange(1, most + 1))
    return program, sample_change(source, program), source


def sample_tree(source, program, change, chosen, assumed, wrong):
    """A tree that is correct more often than not, for the share of wrong parts that is given."""
    verdict = program.changed(change).kept
    possible = Possible(program, change, chosen, assumed)
    leaves = [("void",), ("kept",)] + [("broken", name, at) for name in program.names for at in range(program.size)]
    if source.random() < wrong:
        return source.choice(leaves)
    good = [leaf for leaf in leaves if correct(program, change, chosen, leaf, assumed)]
    if good and source.random() < 0.8:
        return source.choice(good)
    places = []
    for name in unchanged(program, change):
        for at in range(program.size):
            if name not in chosen or source.random() < wrong:
                if ("old", name, at) not in assumed or source.random() < wrong:
                    places.append(("old", name, at, program.contract(name).rows[at]))
                calm = all(called in possible.settled for called in program.body(name).calls)
                if (not calm and ("new", name, at) not in assumed) or source.random() < wrong:
                    places.append(("new", name, at, range(program.size)))
    if not places or len(assumed) > 4:
        return ("kept",) if verdict else ("broken", program.names[-1], 0)
    word, name, at, told = source.choice(places)
    told = list(told)
    if source.random() < wrong:
        told = source.choice([told[1:], told + [0]])
    trees = [sample_tree(source, program, change, chosen, {**assumed, (word, name, at): value}, wrong)
             for value in told]
    return (word, name, at, tuple(trees))
