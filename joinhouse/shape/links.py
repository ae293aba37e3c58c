"""Links between things that are told by their indices, and trees of them."""

from joinhouse.base.words import is_ascending, is_index, is_pair


def _is_link(many, value):
    """Whether the value is a pair of ascending indices of so many things."""
    return is_pair(value) and is_index(many, value[0]) and is_index(many, value[1]) and value[0] < value[1]


def _reach_all(many, links):
    """Whether one gets along links from the first of so many things to each other one."""
    reached = {0: True}
    todo = [0]
    while todo:
        thing = todo.pop()
        for one, other in links:
            if thing == one or thing == other:
                end = one + other - thing
                if end not in reached:
                    reached[end] = True
                    todo.append(end)
    return len(reached) == many


def are_tree_links(many, value):
    """Whether the value is an ascending tuple of links, one less than things, which connect all of so many things."""
    if not isinstance(value, tuple) or len(value) != many - 1:
        return False
    if not all([_is_link(many, link) for link in value]) or not is_ascending(value):
        return False
    return _reach_all(many, value)


def hang_together(things, links):
    """Whether at least one of some things hang together by those links of a tree that are between them."""
    # In a tree this is so just if there is one link less than things.
    return len([1 for one, other in links if one in things and other in things]) == len(things) - 1
