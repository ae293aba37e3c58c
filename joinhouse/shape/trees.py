"""Join trees of questions, and the cuttings that they come from."""

from joinhouse.base.questions import check_questions
from joinhouse.base.words import is_count, is_index, is_pair
from joinhouse.errors import InvalidOperation
from joinhouse.shape.links import are_tree_links, hang_together
from joinhouse.shape.masks import clause_masks, within


def _shared(masks, at, left):
    """The columns of a clause that others have which are still there."""
    others = 0
    for other in left:
        if other != at:
            others |= masks[other]
    return masks[at] & others


def _next_cut(masks, left):
    """Any pair of a clause that can be cut off and of one that has what it shares, None if there is none."""
    for at in left:
        shared = _shared(masks, at, left)
        for other in left:
            if other != at and within(shared, masks[other]):
                return at, other
    return None


def cutting(question):
    """Any cutting of a question, None if there is none."""
    check_questions(question)
    masks = clause_masks(question)
    left = list(range(len(masks)))
    pairs = []
    while len(left) > 1:
        # Whatever is cut off first, what can be cut off now can be cut off later, too.
        pair = _next_cut(masks, left)
        if pair is None:
            return None
        pairs.append(pair)
        left = [at for at in left if at != pair[0]]
    return tuple(pairs)


def _is_cut(masks, left, value):
    """Whether the value is a pair of a clause that can be cut off and of one that has what it shares."""
    if not is_pair(value) or not all([is_index(len(masks), at) and at in left for at in value]):
        return False
    at, other = value
    return at != other and within(_shared(masks, at, left), masks[other])


def is_cutting(question, value):
    """Whether the value is a cutting of a question."""
    check_questions(question)
    masks = clause_masks(question)
    left = list(range(len(masks)))
    if not isinstance(value, tuple) or len(value) != len(masks) - 1:
        return False
    for pair in value:
        if not _is_cut(masks, left, pair):
            return False
        left = [at for at in left if at != pair[0]]
    return True


def _is_any_cut(value):
    """Whether the value is a pair of two different integers of at least 0."""
    return is_pair(value) and is_count(value[0]) and is_count(value[1]) and value[0] != value[1]


def tree_of(cutting):
    """The ascending tuple of the links of a cutting, each once."""
    if not isinstance(cutting, tuple) or not all([_is_any_cut(pair) for pair in cutting]):
        raise InvalidOperation("no tuple of pairs of two different numbers")
    return tuple(sorted(set([(min(one, other), max(one, other)) for one, other in cutting])))


def join_tree(question):
    """Any join tree of a question, None if there is none."""
    found = cutting(question)
    return None if found is None else tree_of(found)


def is_join_tree(question, value):
    """Whether the value is a join tree of a question."""
    check_questions(question)
    if not are_tree_links(len(question), value):
        return False
    return all([hang_together(question.having(column), value) for column in question.columns])
