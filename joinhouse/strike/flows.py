"""Greatest flows along arcs between places, which are told by their numbers.

The flow begins at the first place and ends at the last one. An arc is a triple of a place, of the place to which it
leads, and of the most that can flow along it.
"""


class Net:
    """Arcs with what can still flow along them.

    Each arc has two numbers, one behind the other, for both directions: what flows along it can flow back.
    """

    def __init__(self, many, arcs):
        self._last = many - 1
        self._ends = []
        self._left = []
        self._outgoing = [[] for _ in range(many)]
        for one, other, most in arcs:
            self._outgoing[one].append(len(self._ends))
            self._outgoing[other].append(len(self._ends) + 1)
            self._ends.extend([other, one])
            self._left.extend([most, 0])

    def levels(self):
        """For each place in how few arcs one comes to it where more can flow, -1 if one does not come to it."""
        found = [-1] * len(self._outgoing)
        found[0] = 0
        todo = [0]
        while todo:
            behind = []
            for place in todo:
                for way in self._outgoing[place]:
                    end = self._ends[way]
                    if self._left[way] and found[end] < 0:
                        found[end] = found[place] + 1
                        behind.append(end)
            todo = behind
        return found

    def fill(self, levels):
        """Lets flow what can flow from each level to the next one only."""
        tried = [0] * len(self._outgoing)
        path = self._next_path(levels, tried)
        while path:
            most = min([self._left[way] for way in path])
            for way in path:
                self._left[way] -= most
                self._left[way ^ 1] += most
            path = self._next_path(levels, tried)

    def _next_path(self, levels, tried):
        """The list of arcs from the first place to the last one along which more can flow, empty if there is none.

        `tried` has for each place how many of its arcs are in vain.
        """
        path = []
        place = 0
        while place != self._last:
            way = self._next_way(place, levels, tried)
            if way is not None:
                path.append(way)
                place = self._ends[way]
            elif path:
                place = self._ends[path.pop() ^ 1]
                tried[place] += 1
            else:
                return []
        return path

    def _next_way(self, place, levels, tried):
        """The first arc of a place that is not in vain yet, None if there is none."""
        ways = self._outgoing[place]
        while tried[place] < len(ways):
            way = ways[tried[place]]
            if self._left[way] and levels[self._ends[way]] == levels[place] + 1:
                return way
            tried[place] += 1
        return None

    def flows(self):
        """The list of what flows along each arc."""
        return [self._left[at] for at in range(1, len(self._left), 2)]


def greatest_flow(many, arcs):
    """The pair of the list of what flows along each arc, and of whether one comes to each place where more can flow."""
    net = Net(many, arcs)
    levels = net.levels()
    while levels[-1] >= 0:
        net.fill(levels)
        levels = net.levels()
    return net.flows(), [level >= 0 for level in levels]


def flow_paths(many, arcs, flows):
    """The list of pairs of the numbers of the arcs on a path and of what flows along it, which are all of a flow.

    There is no way back to a place along the arcs, so that each path comes to the last place.
    """
    left = list(flows)
    ways = [[] for _ in range(many)]
    for at, arc in enumerate(arcs):
        if left[at]:
            ways[arc[0]].append(at)
    found = []
    while True:
        path = []
        place = 0
        while place != many - 1:
            while ways[place] and not left[ways[place][-1]]:
                ways[place].pop()
            if not ways[place]:
                return found
            path.append(ways[place][-1])
            place = arcs[path[-1]][1]
        most = min([left[at] for at in path])
        for at in path:
            left[at] -= most
        found.append((tuple(path), most))
