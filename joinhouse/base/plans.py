"""In which order columns get values, so that little is tried in vain.

Columns are told by their numbers, and sets of columns by the bits of an integer.
"""

# Where no more tuples of values than this can come up, to plan takes longer than to try them.
FEW = 1000


def mask_of(columns):
    """The set of some columns."""
    mask = 0
    for column in columns:
        mask |= 1 << column
    return mask


def columns_in(mask):
    """The ascending tuple of the columns of a set."""
    return tuple([column for column in range(mask.bit_length()) if mask >> column & 1])


class Stop:
    """Some columns without values that hang together by clauses, where all others that touch them have values.

    `sides` are these others; `begins` are the columns that can get a value first, the best one ahead.
    """

    def __init__(self, mask, sides, begins):
        self.mask = mask
        self.sides = sides
        self.begins = begins


class Plan:
    """The stops of the columns of some clauses.

    A clause is told by the set of its columns and the number of its rows; `spans` tells for each column how many
    values it can have at most.
    """

    def __init__(self, masks, sizes, spans):
        self._masks = masks
        self._sizes = sizes
        self._spans = spans
        self._counts = {0: 1}
        self._bests = {}
        self._stops = {}
        self._behind = {}

    def grown(self, some, mask):
        """All columns of a set that hang together with some of it."""
        more = some
        while True:
            for clause in self._masks:
                if clause & more:
                    more |= clause & mask
            if more == some:
                return some
            some = more

    def parted(self, mask):
        """The sets of columns of a set that hang together."""
        found = []
        while mask:
            some = self.grown(mask & -mask, mask)
            found.append(some)
            mask ^= some
        return found

    def stop(self, mask):
        """The stop of a set of columns that hang together."""
        if mask not in self._stops:
            sides = self._sides(mask)
            best = self._best(mask)[1]
            others = [column for column in self._begins(mask, sides) if sides and column != best]
            self._stops[mask] = Stop(mask, columns_in(sides), (best, *others))
        return self._stops[mask]

    def looks(self, mask, column):
        """Pairs of the number, and of the columns with values, of each clause with a column of a stop."""
        return [
            (number, columns_in(clause & ~mask))
            for number, clause in enumerate(self._masks) if clause >> column & 1
        ]

    def behind(self, mask, column):
        """The tuple of the stops that are left of a stop when a column of it has a value."""
        if (mask, column) not in self._behind:
            self._behind[(mask, column)] = tuple([self.stop(some) for some in self.parted(mask ^ 1 << column)])
        return self._behind[(mask, column)]

    def _sides(self, mask):
        """The other columns of the clauses that have a column of a set."""
        touched = 0
        for clause in self._masks:
            if clause & mask:
                touched |= clause
        return touched & ~mask

    def _share(self, number, mask):
        """How many tuples of values for columns of a clause there can be at most in its rows."""
        many = 1
        for column in columns_in(mask):
            many *= self._spans[column]
        return min(many, self._sizes[number])

    def _count(self, mask):
        """How many tuples of values for the columns of a set there can be at most, by the clauses that cover it."""
        if mask not in self._counts:
            least = mask & -mask
            self._counts[mask] = min([
                self._share(number, clause & mask) * self._count(mask & ~clause)
                for number, clause in enumerate(self._masks) if clause & least
            ])
        return self._counts[mask]

    def _best(self, mask):
        """The pair of the least work that columns which hang together make, and of the column to begin with."""
        if mask not in self._bests:
            sides = self._sides(mask)
            many = self._count(mask | sides)
            begins = self._begins(mask, sides)
            if many <= FEW:
                self._bests[mask] = (many, begins[0])
            else:
                self._bests[mask] = min([(self._work(mask, sides, column), column) for column in begins])
        return self._bests[mask]

    def _begins(self, mask, sides):
        """The columns of a set that touch its sides, all if it has none."""
        near = 0
        for clause in self._masks:
            if clause & sides:
                near |= clause & mask
        return columns_in(near if near else mask)

    def _work(self, mask, sides, column):
        """How many tuples come up at most if the columns of a set begin with this one."""
        lots = self.parted(mask ^ 1 << column)
        return self._count(sides | 1 << column) + sum([self._best(lot)[0] for lot in lots])
