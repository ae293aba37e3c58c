"""Links between things that are told by their indices, and trees of them."""

from joinhouse.base.words import is_ascending, is_index, is_pair


def _is_link(many, value):
    """Whether the value is a pair of ascending indices of so many things."""
    return is_pair(value) and is_index(many, value[0]) and is_index(many, value[1]) and value[0] < value[1]


def links_from(first, links):
    """The list of the pairs of each thing that one comes to along links, and of the one from which one comes to it.

    It begins near the first thing; what lies behind another one stands behind it.
    """
    reached = {first: True}
    todo = [first]
    pairs = []
    while todo:
        thing = todo.pop()
        for one, other in links:
            if thing == one or thing == other:
                end = one + other - thing
                if end not in reached:
                    reached[end] = True
                    todo.append(end)
                    pairs.append((end, thing))
    return pairs


def are_tree_links(many, value):
    """Whether the value is an ascending tuple of links, one less than things, which connect all of so many things."""
    if not isinstance(value, tuple) or len(value) != many - 1:
        return False
    if not all([_is_link(many, link) for link in value]) or not is_ascending(value):
        return False
    return len(links_from(0, value)) == many - 1


def hang_together(things, links):
    """Whether at least one of some things hang together by those links of a tree that are between them."""
    # In a tree this is so just if there is one link less than things.
    return len([1 for one, other in links if one in things and other in things]) == len(things) - 1
