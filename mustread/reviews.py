"""Reviews: unchanged functions are read one by one until the verdict is decided."""

from mustread.checks import changed_program, unchanged_names
from mustread.errors import BadChoice, BadName, NothingRead
from mustread.reading import cost, is_enough, sets_by_cost


class Review:
    """The functions that have been read in a review of a change."""

    def __init__(self, program, change):
        self._program = program
        self._verdict = changed_program(program, change).kept
        self._unchanged = unchanged_names(program, change)
        # All answers are found here, so the change does not have to be kept; is_enough refuses too many cases.
        sets = sets_by_cost(program, self._unchanged)
        self._enough = [names for names in sets if is_enough(program, change, names)]
        self._seen = []

    @property
    def seen(self):
        """The functions that have been read, in the order of the readings."""
        return list(self._seen)

    @property
    def spent(self):
        """The cost of the functions that have been read."""
        return cost(self._program, self._seen)

    @property
    def outcome(self):
        """The verdict if the functions that have been read decide it, otherwise None."""
        return self._verdict if self._decides(self._seen) else None

    @property
    def rest(self):
        """What remains: the cheapest set of other functions that decides, together with those that have been read."""
        others = [name for name in self._unchanged if name not in self._seen]
        sets = sets_by_cost(self._program, others)
        return [names for names in sets if self._decides(self._seen + names)][0]

    def read(self, name):
        """Read an unchanged function that has not been read, and return its body."""
        if not isinstance(name, str) or name not in self._unchanged or name in self._seen:
            raise BadName("not an unchanged function that has not been read")
        self._seen.append(name)
        return self._program.body(name)

    def undo(self):
        """Take back the last reading, and return the name of the function."""
        if len(self._seen) == 0:
            raise NothingRead("no function has been read")
        return self._seen.pop()

    def finish(self):
        """Read what remains, and yield each name after reading it."""
        # What remains is asked for again each time, as the caller may read and undo in between.
        while len(self.rest) > 0:
            name = self.rest[0]
            self.read(name)
            yield name

    @classmethod
    def after(cls, program, change, names):
        """Return a review in which these functions have been read, in this order."""
        review = cls(program, change)
        if not isinstance(names, (list, tuple)):
            raise BadChoice("not a list or tuple of names")
        for name in names:
            review.read(name)
        return review

    def _decides(self, names):
        return [name for name in self._unchanged if name in names] in self._enough
