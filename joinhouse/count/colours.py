"""Points in links, and colours of them, so that no renaming takes a point to one of another colour.

A link is a pair of a label and of different points. Points and colours are told by their numbers.
"""


class Lot:
    """Some points, and the links in which they stand."""

    def __init__(self, points, links):
        self.points = points
        self.links = links


class Effort:
    """How many links were looked at so far."""

    def __init__(self):
        self.steps = 0


class Colouring:
    """Colours of the points of two lots, which get finer by what the links tell of the points.

    Other points of the links have colours, too, but keep them.
    """

    def __init__(self, one, other, colours, effort):
        self._effort = effort
        self._links = [*one.links, *other.links]
        self._numbers = numbers_of(self._links)
        self._turns = {**{point: 1 for point in one.points}, **{point: -1 for point in other.points}}
        self._colours = dict(colours)
        self._groups = {}
        for point in self._turns:
            group = self._groups.setdefault(colours[point], {})
            group[point] = True
        self._fresh = max(list(colours.values()), default=0) + 1

    def of_all(self):
        """A dict from the points to their colours."""
        return dict(self._colours)

    def refine(self, changed):
        """Makes the colours finer until links tell no more, from points with new colours on.

        Returns whether each colour still has equally many points of both lots.
        """
        while changed:
            told = self._told_by(changed)
            parts = {}
            for point in told:
                part = parts.setdefault((self._colours[point], tuple(sorted(told[point]))), [])
                part.append(point)
            if any([sum([self._turns[one] for one in part]) != 0 for part in parts.values()]):
                return False
            colours = {}
            for key, part in parts.items():
                some = colours.setdefault(key[0], [])
                some.append(part)
            changed = []
            for colour, some in colours.items():
                changed.extend(self._split(colour, some, told))
        return True

    def _told_by(self, changed):
        """What the links with points of new colours tell of each point of the lots in them."""
        told = {}
        numbers = sorted(set([number for point in changed for number in self._numbers.get(point, [])]))
        self._effort.steps += 1 + len(numbers)
        for number in numbers:
            label, points = self._links[number]
            tint = tuple([self._colours[point] for point in points])
            for place, point in enumerate(points):
                if point in self._turns:
                    some = told.setdefault(point, [])
                    some.append((label, place, tint))
        return told

    def _split(self, colour, parts, told):
        """Gives new colours to all parts of a group but a greatest one, and returns their points."""
        group = self._groups[colour]
        moved = sorted(parts, key=len)
        left = len(group) - sum([len(part) for part in parts])
        if left < len(moved[-1]):
            moved.pop()
            if left:
                moved.append([point for point in group if point not in told])
        changed = []
        for part in moved:
            for point in part:
                del group[point]
                self._colours[point] = self._fresh
            self._groups[self._fresh] = {point: True for point in part}
            self._fresh += 1
            changed.extend(part)
        return changed


def numbers_of(links):
    """A dict from points to the numbers of the links in which they stand."""
    found = {}
    for number, (_, points) in enumerate(links):
        for point in points:
            some = found.setdefault(point, [])
            some.append(number)
    return found


def by_colour(points, colours):
    """A dict from colours to the lists of the points that have them."""
    found = {}
    for point in points:
        some = found.setdefault(colours[point], [])
        some.append(point)
    return found


def pattern_of(link, colours):
    """The label of a link with the colours of its points."""
    return link[0], tuple([colours[point] for point in link[1]])


def _most_links(tint, groups):
    """How many links there are if all points of some colours are in links."""
    many = 1
    used = {}
    for colour in tint:
        many *= len(groups.get(colour, [0])) - used.get(colour, 0)
        used[colour] = used.get(colour, 0) + 1
    return many


def full_patterns(lot, colours):
    """A dict of the patterns of which there are all links, so that they tell no points apart."""
    groups = by_colour(lot.points, colours)
    numbers = {}
    for link in lot.links:
        pattern = pattern_of(link, colours)
        numbers[pattern] = numbers.get(pattern, 0) + 1
    return {pattern: True for pattern in numbers if numbers[pattern] == _most_links(pattern[1], groups)}


def _lot_around(point, links, numbers, loose):
    """The lot of the loose points that hang together with one by some links; they are loose no more."""
    points = [point]
    used = {}
    del loose[point]
    done = 0
    while done < len(points):
        for number in numbers.get(points[done], []):
            if number not in used:
                used[number] = True
                near = [other for other in links[number][1] if other in loose]
                points.extend(near)
                for other in near:
                    del loose[other]
        done += 1
    return Lot(points, [links[number] for number in used])


def parts_of(lot, colours, full):
    """The lots into which the links that are not full part the points that share their colours."""
    links = [link for link in lot.links if pattern_of(link, colours) not in full]
    numbers = numbers_of(links)
    groups = by_colour(lot.points, colours)
    loose = {point: True for point in lot.points if len(groups[colours[point]]) > 1}
    found = []
    for point in list(loose):
        if point in loose:
            found.append(_lot_around(point, links, numbers, loose))
    return found
