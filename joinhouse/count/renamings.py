"""Renamings of values by which one store becomes another one.

The values of two stores are points, and their rows are links: pairs of a label and of different points. Points get
colours, so that no renaming takes a point to one of another colour. What colours leave open is tried, separately for
each lot of points that hang together.
"""


class Lot:
    """Some points, and the links in which they stand."""

    def __init__(self, points, links):
        self.points = points
        self.links = links


class Colouring:
    """Colours of the points of two lots, which get finer by what the links tell of the points.

    Other points of the links have colours, too, but keep them.
    """

    def __init__(self, one, other, colours):
        self._links = [*one.links, *other.links]
        self._numbers = _numbers_of(self._links)
        self._turns = {**{point: 1 for point in one.points}, **{point: -1 for point in other.points}}
        self._colours = dict(colours)
        self._groups = {}
        for point in self._turns:
            group = self._groups.setdefault(colours[point], {})
            group[point] = True
        self._fresh = max(list(colours.values()), default=0) + 1

    def of_all(self):
        """A dict from the points to their colours."""
        return dict(self._colours)

    def refine(self, changed):
        """Makes the colours finer until links tell no more, from points with new colours on.

        Returns whether each colour still has equally many points of both lots.
        """
        while changed:
            told = self._told_by(changed)
            parts = {}
            for point in told:
                part = parts.setdefault((self._colours[point], tuple(sorted(told[point]))), [])
                part.append(point)
            if any([sum([self._turns[point] for point in part]) != 0 for part in parts.values()]):
                return False
            colours = {}
            for key, part in parts.items():
                some = colours.setdefault(key[0], [])
                some.append(part)
            changed = []
            for colour, some in colours.items():
                changed.extend(self._split(colour, some, told))
        return True

    def _told_by(self, changed):
        """What the links with points of new colours tell of each point of the lots in them."""
        told = {}
        for number in sorted(set([number for point in changed for number in self._numbers.get(point, [])])):
            label, points = self._links[number]
            tint = tuple([self._colours[point] for point in points])
            for place, point in enumerate(points):
                if point in self._turns:
                    some = told.setdefault(point, [])
                    some.append((label, place, tint))
        return told

    def _split(self, colour, parts, told):
        """Gives new colours to all parts of a group but a greatest one, and returns their points."""
        group = self._groups[colour]
        moved = sorted(parts, key=len)
        left = len(group) - sum([len(part) for part in parts])
        if left < len(moved[-1]):
            moved.pop()
            if left:
                moved.append([point for point in group if point not in told])
        changed = []
        for part in moved:
            for point in part:
                del group[point]
                self._colours[point] = self._fresh
            self._groups[self._fresh] = {point: True for point in part}
            self._fresh += 1
            changed.extend(part)
        return changed


def _numbers_of(links):
    """A dict from points to the numbers of the links in which they stand."""
    found = {}
    for number, (_, points) in enumerate(links):
        for point in points:
            some = found.setdefault(point, [])
            some.append(number)
    return found


def _by_colour(points, colours):
    """A dict from colours to the lists of the points that have them."""
    found = {}
    for point in points:
        some = found.setdefault(colours[point], [])
        some.append(point)
    return found


def _pattern(link, colours):
    """The label of a link with the colours of its points."""
    return link[0], tuple([colours[point] for point in link[1]])


def _most_links(tint, groups):
    """How many links there are if all points of some colours are in links."""
    many = 1
    used = {}
    for colour in tint:
        many *= len(groups.get(colour, [0])) - used.get(colour, 0)
        used[colour] = used.get(colour, 0) + 1
    return many


def _full_patterns(lot, colours):
    """A dict of the patterns of which there are all links, so that they tell no points apart."""
    groups = _by_colour(lot.points, colours)
    numbers = {}
    for link in lot.links:
        pattern = _pattern(link, colours)
        numbers[pattern] = numbers.get(pattern, 0) + 1
    return {pattern: True for pattern in numbers if numbers[pattern] == _most_links(pattern[1], groups)}


def _lot_around(point, links, numbers, loose):
    """The lot of the loose points that hang together with one by some links; they are loose no more."""
    points = [point]
    used = {}
    del loose[point]
    done = 0
    while done < len(points):
        for number in numbers.get(points[done], []):
            if number not in used:
                used[number] = True
                near = [other for other in links[number][1] if other in loose]
                points.extend(near)
                for other in near:
                    del loose[other]
        done += 1
    return Lot(points, [links[number] for number in used])


def _parts_of(lot, colours, full):
    """The lots into which the links that are not full part the points that share their colours."""
    links = [link for link in lot.links if _pattern(link, colours) not in full]
    numbers = _numbers_of(links)
    groups = _by_colour(lot.points, colours)
    loose = {point: True for point in lot.points if len(groups[colours[point]]) > 1}
    found = []
    for point in list(loose):
        if point in loose:
            found.append(_lot_around(point, links, numbers, loose))
    return found


def _led_by_colour(points, others, colours):
    """The dict between points of the same colours, where no two on a side have the same one."""
    names = {colours[other]: other for other in others}
    return {point: names[colours[point]] for point in points}


def _alone(points, colours):
    """Those of some points that have a colour of their own."""
    return [some[0] for some in _by_colour(points, colours).values() if len(some) == 1]


def _lot_renaming(one, other, colours):
    """Any dict from the points of one lot to those of another with the same colours that keeps links and colours."""
    groups = _by_colour(one.points, colours)
    shared = [colour for colour in groups if len(groups[colour]) > 1]
    if not shared:
        return _led_by_colour(one.points, other.points, colours)
    near = {point: colours[point] for lot in (one, other) for _, points in lot.links for point in points}
    fresh = max(list(near.values())) + 1
    least = min(shared, key=lambda colour: len(groups[colour]))
    point = groups[least][0]
    for tried in other.points:
        if colours[tried] == least:
            names = renaming_of(one, other, {**near, point: fresh, tried: fresh}, [point, tried])
            if names is not None:
                return names
    return None


def _kind_of(lot, kinds, colours):
    """The pair of the index of the lot of a kind, and of a dict from it to a lot; a new index for a new kind."""
    for at, first in enumerate(kinds):
        names = _lot_renaming(first, lot, colours)
        if names is not None:
            return at, names
    return len(kinds), {point: point for point in lot.points}


def _paired(lots, colours):
    """Any dict that takes lots of the first side to lots of the second one, None if there is none.

    `lots` are pairs of a side, 0 or 1, and of a lot; all have the same colours.
    """
    kinds = []
    found = ([], [])
    for side, lot in lots:
        at, names = _kind_of(lot, kinds, colours)
        if at == len(kinds):
            kinds.append(lot)
        found[side].append((at, names))
    led = {}
    for at in range(len(kinds)):
        ones = [names for kind, names in found[0] if kind == at]
        others = [names for kind, names in found[1] if kind == at]
        if len(ones) != len(others):
            return None
        for one, other in zip(ones, others):
            for point in one:
                led[one[point]] = other[point]
    return led


def renaming_of(one, other, colours, changed):
    """Any dict from the points of one lot to those of another one that keeps links and colours, None if there is none.

    The links tell no points of one colour apart, but for what they tell by the new colours of changed points.
    """
    colouring = Colouring(one, other, colours)
    if not colouring.refine(changed):
        return None
    finer = colouring.of_all()
    full = _full_patterns(one, finer)
    alike = {}
    for side, lot in enumerate((one, other)):
        for part in _parts_of(lot, finer, full):
            tint = tuple(sorted([finer[point] for point in part.points]))
            some = alike.setdefault((tint, len(part.links)), [])
            some.append((side, part))
    names = _led_by_colour(_alone(one.points, finer), _alone(other.points, finer), finer)
    for lots in alike.values():
        led = _paired(lots, finer)
        if led is None:
            return None
        names.update(led)
    return names


def _lot_of(store, begin, labels):
    """The lot of all values of a store, numbered from `begin` on; `labels` gets what rows have in common."""
    numbers = {number: begin + at for at, number in enumerate(store.domain)}
    links = []
    for table, row in store:
        key = (table, tuple([row.index(number) for number in row]))
        label = labels.setdefault(key, len(labels))
        links.append((label, tuple([numbers[number] for at, number in enumerate(row) if row.index(number) == at])))
    return Lot(list(numbers.values()), links)


def store_renaming(one, other):
    """Any dict by which one store becomes another one with the same tables, None if there is none."""
    values = one.domain
    others = other.domain
    if len(values) != len(others) or len(one) != len(other):
        return None
    labels = {}
    first = _lot_of(one, 0, labels)
    second = _lot_of(other, len(values), labels)
    changed = [*first.points, *second.points]
    names = renaming_of(first, second, {point: 0 for point in changed}, changed)
    if names is None:
        return None
    return {number: others[names[at] - len(values)] for at, number in enumerate(values)}
