"""The greatest sum of unknowns, of which some together are at most a limit each time."""


class Lines:
    """The lines of a tableau, all over one denominator, so that it has integers only.

    The last line is that of the sum; in each line the last number is that of the limits. An unknown of `base` stands
    for each other line; all others are 0.
    """

    def __init__(self, rows, limits):
        many = len(rows[0])
        self._lines = []
        for at, row in enumerate(rows):
            own = [1 if other == at else 0 for other in range(len(rows))]
            self._lines.append([*row, *own, limits[at]])
        self._lines.append([*[-1] * many, *[0] * len(rows), 0])
        self._base = [many + at for at in range(len(rows))]
        self._over = 1

    def entering(self):
        """The first unknown by which the sum grows, None if there is none."""
        for column, number in enumerate(self._lines[-1][:-1]):
            if number < 0:
                return column
        return None

    def leaving(self, column):
        """The line that limits an unknown most; the one of the first unknown, so that there is an end."""
        best = None
        for at, unknown in enumerate(self._base):
            line = self._lines[at]
            if line[column] > 0:
                if best is None:
                    best = at
                else:
                    least = self._lines[best]
                    here, there = line[-1] * least[column], least[-1] * line[column]
                    if here < there or (here == there and unknown < self._base[best]):
                        best = at
        return best

    def turn(self, at, column):
        """Makes an unknown stand for a line."""
        chosen = self._lines[at]
        pivot = chosen[column]
        for other, line in enumerate(list(self._lines)):
            if other != at:
                # These divisions leave nothing.
                self._lines[other] = [
                    (number * pivot - line[column] * beside) // self._over for number, beside in zip(line, chosen)
                ]
        self._base[at] = column
        self._over = pivot

    def numbers(self, many):
        """The list of so many first unknowns, over the denominator."""
        found = [0] * many
        for at, unknown in enumerate(self._base):
            if unknown < many:
                found[unknown] = self._lines[at][-1]
        return found

    def shares(self, many):
        """The list of what each limit adds to the sum, behind so many unknowns, over the denominator."""
        return self._lines[-1][many:-1]

    def over(self):
        """The denominator."""
        return self._over


def greatest_sum(rows, limits):
    """A greatest sum of unknowns of at least 0, each of which is in some row, as a triple.

    The rows are lists of 0 and 1, which tell what unknowns are together at most the limits, integers of at least 0.
    The triple is of the list of the unknowns, of the list of the shares of the limits in the sum, and of the integer
    by which all are divided.
    """
    many = len(rows[0])
    lines = Lines(rows, limits)
    column = lines.entering()
    while column is not None:
        lines.turn(lines.leaving(column), column)
        column = lines.entering()
    return lines.numbers(many), lines.shares(many), lines.over()
