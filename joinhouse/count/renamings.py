"""Renamings of values by which one store becomes another one.

The values of two stores are points, and their rows are links. What colours leave open is tried, separately for each
lot of points that hang together.
"""

from joinhouse.count.colours import Colouring, Effort, Lot, by_colour, full_patterns, parts_of, pattern_of


def _near(lot, colours):
    """A dict from the points of a lot, and the others in its links, to their colours."""
    found = {point: colours[point] for point in lot.points}
    for _, points in lot.links:
        for point in points:
            found[point] = colours[point]
    return found


def _shifted(lot, shift):
    """A lot with other points in the place of its own."""
    names = {point: point + shift for point in lot.points}
    links = [(label, tuple([names.get(point, point) for point in points])) for label, points in lot.links]
    return Lot(list(names.values()), links)


class Vain:
    """The points of a lot that are tried in vain for one point of another lot.

    A symmetry of the lot, which keeps colours, takes them to other ones that need not be tried.
    """

    def __init__(self, lot, colours, effort):
        self._lot = lot
        self._colours = _near(lot, colours)
        self._effort = effort
        self._shift = max(list(self._colours)) + 1
        self._symmetries = []
        self._found = {}
        self._left = 0

    def has(self, point):
        """Whether it is known that a point is tried in vain."""
        return point in self._found

    def put(self, point, others, steps):
        """Puts in a point that was tried in vain in so many steps, and what symmetries make of it.

        They are looked for among other points, but not in more steps than were in vain, as there could be none.
        """
        self._left += steps
        self._found[point] = True
        self._spread()
        for other in others:
            if self._left > 0 and other not in self._found:
                begun = self._effort.steps
                self._look_for_symmetry(point, other)
                self._left -= self._effort.steps - begun

    def _look_for_symmetry(self, point, other):
        """Adds any symmetry that takes one point to another one, if there is one."""
        twin = _shifted(self._lot, self._shift)
        colours = {**self._colours, **{point + self._shift: self._colours[point] for point in self._lot.points}}
        names = _renaming_with(self._lot, twin, colours, (point, other + self._shift), self._effort)
        if names is not None:
            self._symmetries.append({point: names[point] - self._shift for point in names})
            self._spread()

    def _spread(self):
        """Takes all symmetries as often as they lead to new points."""
        todo = list(self._found)
        while todo:
            point = todo.pop()
            for names in self._symmetries:
                if names[point] not in self._found:
                    self._found[names[point]] = True
                    todo.append(names[point])


def _led_by_colour(points, others, colours):
    """The dict between points of the same colours, where no two on a side have the same one."""
    names = {colours[other]: other for other in others}
    return {point: names[colours[point]] for point in points}


def _alone(points, colours):
    """Those of some points that have a colour of their own."""
    return [some[0] for some in by_colour(points, colours).values() if len(some) == 1]


def _telling_point(lot, groups, colours):
    """A point of a colour that others share, of which links can be expected to tell most when it is fixed."""
    times = {}
    for pattern in {pattern_of(link, colours): True for link in lot.links}:
        for colour in {tint: True for tint in pattern[1]}:
            times[colour] = times.get(colour, 0) + 1
    shared = [colour for colour in groups if len(groups[colour]) > 1]
    best = min(shared, key=lambda colour: (-times.get(colour, 0), len(groups[colour])))
    return groups[best][0]


def _renaming_with(one, other, colours, points, effort):
    """Any dict like that of `renaming_of` which takes the one of two points to the other one."""
    fresh = max(list(colours.values())) + 1
    return renaming_of(one, other, {**colours, points[0]: fresh, points[1]: fresh}, points, effort)


def _lot_renaming(one, other, colours, effort):
    """Any dict from the points of one lot to those of another with the same colours that keeps links and colours."""
    groups = by_colour(one.points, colours)
    if len(groups) == len(one.points):
        return _led_by_colour(one.points, other.points, colours)
    near = {**_near(one, colours), **_near(other, colours)}
    point = _telling_point(one, groups, colours)
    vain = Vain(other, colours, effort)
    others = by_colour(other.points, colours)[colours[point]]
    for at, tried in enumerate(others):
        if not vain.has(tried):
            begun = effort.steps
            names = _renaming_with(one, other, near, (point, tried), effort)
            if names is not None:
                return names
            vain.put(tried, others[at + 1:], effort.steps - begun)
    return None


def _kind_of(lot, kinds, colours, effort):
    """The pair of the index of the lot of a kind, and of a dict from it to a lot; a new index for a new kind."""
    for at, first in enumerate(kinds):
        names = _lot_renaming(first, lot, colours, effort)
        if names is not None:
            return at, names
    return len(kinds), {point: point for point in lot.points}


def _paired(lots, colours, effort):
    """Any dict that takes lots of the first side to lots of the second one, None if there is none.

    `lots` are pairs of a side, 0 or 1, and of a lot; all have the same colours.
    """
    kinds = []
    found = ([], [])
    for side, lot in lots:
        at, names = _kind_of(lot, kinds, colours, effort)
        if at == len(kinds):
            kinds.append(lot)
        found[side].append((at, names))
    led = {}
    for at in range(len(kinds)):
        ones = [names for kind, names in found[0] if kind == at]
        others = [names for kind, names in found[1] if kind == at]
        if len(ones) != len(others):
            return None
        for one, other in zip(ones, others):
            for point in one:
                led[one[point]] = other[point]
    return led


def renaming_of(one, other, colours, changed, effort):
    """Any dict from the points of one lot to those of another one that keeps links and colours, None if there is none.

    The links tell no points of one colour apart, but for what they tell by the new colours of changed points.
    """
    colouring = Colouring(one, other, colours, effort)
    if not colouring.refine(changed):
        return None
    finer = colouring.of_all()
    full = full_patterns(one, finer)
    alike = {}
    for side, lot in enumerate((one, other)):
        for part in parts_of(lot, finer, full):
            tint = tuple(sorted([finer[point] for point in part.points]))
            some = alike.setdefault((tint, len(part.links)), [])
            some.append((side, part))
    names = _led_by_colour(_alone(one.points, finer), _alone(other.points, finer), finer)
    for lots in alike.values():
        led = _paired(lots, finer, effort)
        if led is None:
            return None
        names.update(led)
    return names


def _lot_of(store, begin, labels):
    """The lot of all values of a store, numbered from `begin` on; `labels` gets what rows have in common."""
    numbers = {number: begin + at for at, number in enumerate(store.domain)}
    links = []
    for table, row in store:
        key = (table, tuple([row.index(number) for number in row]))
        label = labels.setdefault(key, len(labels))
        links.append((label, tuple([numbers[number] for at, number in enumerate(row) if row.index(number) == at])))
    return Lot(list(numbers.values()), links)


def store_renaming(one, other):
    """Any dict by which one store becomes another one with the same tables, None if there is none."""
    values = one.domain
    others = other.domain
    if len(values) != len(others) or len(one) != len(other):
        return None
    labels = {}
    first = _lot_of(one, 0, labels)
    second = _lot_of(other, len(values), labels)
    changed = [*first.points, *second.points]
    names = renaming_of(first, second, {point: 0 for point in changed}, changed, Effort())
    if names is None:
        return None
    return {number: others[names[at] - len(values)] for at, number in enumerate(values)}
