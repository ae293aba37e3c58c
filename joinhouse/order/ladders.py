"""Readings, and their beginnings, told by their numbers along a layered order, also if they are too many to list."""

from joinhouse.base.search import agreeing_rows
from joinhouse.shape.agreeing import parts_of_rows, values_in


class Layers:
    """Which values each column of a layered order can have beside those ahead of it, so that there is a reading.

    Columns are told by their places in the order. `ahead` has for each the tuple of its neighbours ahead of it, and
    `choices` a dict from their values to the ascending list of its own values. `homes` are the indices of clauses that
    have a column and its neighbours ahead.
    """

    def __init__(self, question, store, order, ahead, homes):
        self.ahead = ahead
        self.choices = [{} for _ in order]
        rows = [agreeing_rows(columns, store.rows(table), {}) for table, columns in question.clauses]
        ends = _ends_of(question, rows, order)
        for place in range(len(order) - 1, -1, -1):
            columns = [*[order[at] for at in ahead[place]], order[place]]
            home = homes[place]
            # What some row of this clause does not have cannot be in any reading.
            tried = parts_of_rows(question.clauses[home][1], rows[home], columns)
            self._choose(place, sorted(tried), ends[place])
        self.possible = all([len(some) > 0 for some in self.choices])

    def _choose(self, place, tried, ends):
        """Keeps those of some values with which the clauses that end here, and the columns behind, go along."""
        known = [*self.ahead[place], place]
        checks = [([known.index(at) for at in places], led) for places, led in ends]
        checks.extend([(spots, self.choices[other]) for other, spots in self.behind(place, len(self.ahead))])
        found = self.choices[place]
        for values in tried:
            if all([values_in(values, spots) in led for spots, led in checks]):
                some = found.setdefault(values[:-1], [])
                some.append(values[-1])

    def behind(self, place, length):
        """Pairs of each column below a length whose last neighbour ahead is this one, and of the spots of all of them.

        The spots tell where they stand among the neighbours ahead of this column, and it behind these.
        """
        known = [*self.ahead[place], place]
        return [
            (other, [known.index(at) for at in self.ahead[other]])
            for other in range(place + 1, length) if place in self.ahead[other][-1:]
        ]


def _ends_of(question, rows, order):
    """For each place in an order the list of the clauses that have their last column there.

    A clause is a pair of the list of its places and of a dict of the values that its rows have there.
    """
    ends = [[] for _ in order]
    for at, (_, columns) in enumerate(question.clauses):
        places = [place for place, column in enumerate(order) if column in columns]
        ends[places[-1]].append((places, parts_of_rows(columns, rows[at], [order[place] for place in places])))
    return ends


class Ladder:
    """The different beginnings of readings of one length, told by their numbers, ascending.

    For each place, by the values of the neighbours ahead, `_steps` has the numbers of ways to go on that come before
    each choice, and `_sums` those of all choices. `height` is the number of the beginnings.
    """

    def __init__(self, layers, length):
        self._layers = layers
        self._length = length
        self._steps = [{} for _ in range(length)]
        self._sums = [{} for _ in range(length)]
        for place in range(length - 1, -1, -1):
            self._count(place)
        self.height = self._ways(()) if layers.possible else 0

    def _count(self, place):
        """Counts in how many ways one can go on from each choice of a column."""
        behind = self._layers.behind(place, self._length)
        for values, choices in self._layers.choices[place].items():
            before = 0
            steps = []
            for value in choices:
                steps.append(before)
                longer = (*values, value)
                ways = 1
                for other, spots in behind:
                    ways *= self._sums[other][values_in(longer, spots)]
                before += ways
            self._steps[place][values] = steps
            self._sums[place][values] = before

    def _ways(self, line):
        """In how many ways one can go on from values of the first columns, with which there are readings."""
        ways = 1
        for place in range(len(line), self._length):
            ahead = self._layers.ahead[place]
            if not ahead or ahead[-1] < len(line):
                ways *= self._sums[place][values_in(line, ahead)]
        return ways

    def at(self, number):
        """The beginning with a number."""
        line = []
        for place in range(self._length):
            values = values_in(line, self._layers.ahead[place])
            steps = self._steps[place][values]
            beside = self._ways(line) // self._sums[place][values]
            chosen = _last_at_most(steps, number // beside)
            number -= steps[chosen] * beside
            line.append(self._layers.choices[place][values][chosen])
        return tuple(line)

    def below(self, values):
        """The pair of how many beginnings are less than a tuple, no longer than they, and of how many begin with it."""
        number = 0
        line = []
        if not self.height:
            return 0, 0
        for place, value in enumerate(values):
            ahead = values_in(line, self._layers.ahead[place])
            choices = self._layers.choices[place][ahead]
            beside = self._ways(line) // self._sums[place][ahead]
            ends = [*self._steps[place][ahead], self._sums[place][ahead]]
            chosen = _last_at_most(choices, value)
            if chosen < 0 or choices[chosen] != value:
                return number + ends[chosen + 1] * beside, 0
            number += ends[chosen] * beside
            line.append(value)
        return number, self._ways(line)


def _last_at_most(numbers, most):
    """The index of the last one of ascending numbers that is at most another number, -1 if there is none."""
    low = -1
    high = len(numbers)
    while high - low > 1:
        middle = (low + high) // 2
        if numbers[middle] <= most:
            low = middle
        else:
            high = middle
    return low
