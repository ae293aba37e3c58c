"""All ways to choose some things of many, and to part them."""


def all_chosen(things, many):
    """The list of all tuples of so many of some things, in their order, ascending by their places."""
    if many == 0:
        return [()]
    found = []
    for at, first in enumerate(things):
        if at + many > len(things):
            break
        found.extend([(first, *rest) for rest in all_chosen(things[at + 1:], many - 1)])
    return found


def all_parted(many):
    """The list of all ways to part so many things into blocks: the number of its block for each, as blocks come."""
    found = [()]
    for _ in range(many):
        found = [(*blocks, block) for blocks in found for block in range(max(blocks, default=-1) + 2)]
    return found


def all_numbered(limits):
    """The list of all tuples with a number below each limit, ascending."""
    found = [()]
    for limit in limits:
        found = [(*numbers, number) for numbers in found for number in range(limit)]
    return found
