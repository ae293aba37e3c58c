"""Lots of columns behind others, and escape tables, which show that no tree of bags is so narrow."""

from joinhouse.base.plans import columns_in
from joinhouse.base.questions import check_questions
from joinhouse.base.words import are_names, is_ascending, is_count, is_pair
from joinhouse.errors import InvalidNumber, InvalidOperation
from joinhouse.shape.masks import all_columns, named, near_masks, parted, within
from joinhouse.width.bags import bag_tree, is_bag_tree, width_by

MAX_WIDTH = 7


def _are_columns(question, value):
    """Whether the value is an ascending tuple of columns of a question, which can be empty."""
    return are_names(value) and is_ascending(value) and all([column in question.columns for column in value])


def _mask_of_names(question, names):
    """The set of some columns of a question."""
    mask = 0
    for name in names:
        mask |= 1 << question.columns.index(name)
    return mask


def lots_behind(question, columns):
    """The ascending tuple of the lots behind some columns."""
    check_questions(question)
    if not _are_columns(question, columns):
        raise InvalidOperation("no ascending tuple of columns of the question")
    rest = all_columns(question) & ~_mask_of_names(question, columns)
    return tuple([named(question, lot) for lot in parted(near_masks(question), rest)])


class Chase:
    """Which sets of columns that hang together are caught by so many seekers.

    A set is caught if the seekers can hold all columns around it and one more column of it, and all parts that are
    left of it are caught; or if it is given up, which nobody must come to.
    """

    def __init__(self, question, seekers):
        near = near_masks(question)
        every = all_columns(question)
        self._parts = [parted(near, mask) for mask in range(every + 1)]
        # For each set around which the seekers can stand, whether one of them is free then.
        self._sets = {}
        for mask in range(1, every + 1):
            if len(self._parts[mask]) == 1:
                around = 0
                for column in columns_in(mask):
                    around |= near[column] & ~mask
                if len(columns_in(around)) <= seekers:
                    self._sets[mask] = len(columns_in(around)) < seekers
        self._held = [every & ~mask for mask in range(every + 1) if len(columns_in(mask)) <= seekers]

    def _is_entered(self, mask, caught):
        """Whether some column of a set can be held so that all parts that are left of it are caught."""
        for column in columns_in(mask):
            if all([part in caught for part in self._parts[mask ^ 1 << column]]):
                return True
        return False

    def caught_with(self, given):
        """A dict of all sets that are caught if some are given up."""
        caught = {}
        # All parts of a set are less than it.
        for mask in self._sets:
            if mask in given or (self._sets[mask] and self._is_entered(mask, caught)):
                caught[mask] = True
        return caught

    def is_over(self, caught):
        """Whether all lots are caught where nothing is held."""
        return all([lot in caught for lot in self._parts[-1]])

    def open_parts(self, mask, caught):
        """The list of the parts of a set that are not caught."""
        return [part for part in self._parts[mask] if part not in caught]

    def undecided(self, caught):
        """The parts that are not caught for some columns held, least ones ahead, if there are several; else none."""
        found = [self.open_parts(mask, caught) for mask in self._held]
        several = [sorted([(len(columns_in(part)), part) for part in some]) for some in found if len(some) > 1]
        return [part for _, part in min(several)] if several else []


def _caught_but_one(chase):
    """A dict of caught sets with which just one lot is left behind all columns that are held, None if there is none."""
    todo = [{}]
    while todo:
        given = todo.pop()
        caught = chase.caught_with(given)
        if not chase.is_over(caught):
            parts = chase.undecided(caught)
            if not parts:
                return caught
            # All of these but one must be given up, most likely the least ones.
            todo.extend([{**given, part: True} for part in reversed(parts)])
    return None


def _sets_of(question, width):
    """The list of all sets of columns of a question that seekers can hold, by their ascending tuples."""
    every = [named(question, mask) for mask in range(all_columns(question) + 1)]
    return sorted([names for names in every if len(names) <= width + 1])


def _check_width(width):
    """Refuses what is no width."""
    if not is_count(width) or width > MAX_WIDTH:
        raise InvalidNumber(width)


def escape_table(question, width):
    """Any escape table for a width, with ascending keys, None if there is none."""
    check_questions(question)
    _check_width(width)
    chase = Chase(question, width + 1)
    caught = _caught_but_one(chase)
    if caught is None:
        return None
    table = {}
    for names in _sets_of(question, width):
        rest = all_columns(question) & ~_mask_of_names(question, names)
        table[names] = named(question, chase.open_parts(rest, caught)[0])
    return table


def _are_nested(table, names, question, width):
    """Whether no column that is put to some columns leads out of their lot."""
    lot = _mask_of_names(question, table[names])
    if len(names) > width:
        return True
    more = [tuple(sorted([*names, column])) for column in question.columns if column not in names]
    return all([within(_mask_of_names(question, table[longer]), lot) for longer in more])


def _is_escape(question, width, value):
    """Whether the value is an escape table for a width."""
    every = _sets_of(question, width)
    if not isinstance(value, dict) or len(value) != len(every) or not all([names in value for names in every]):
        return False
    if not all([value[names] in lots_behind(question, names) for names in every]):
        return False
    return all([_are_nested(value, names, question, width) for names in every])


def is_escape_table(question, width, value):
    """Whether the value is an escape table for a width."""
    check_questions(question)
    _check_width(width)
    return _is_escape(question, width, value)


def flight(question, width, table, seekers):
    """The tuple of the lots at the tuples of seekers, one behind the other."""
    if not is_escape_table(question, width, table):
        raise InvalidOperation("no escape table for this width")
    if not isinstance(seekers, tuple):
        raise InvalidOperation("no tuple of tuples of columns")
    if not all([_are_columns(question, names) and len(names) <= width + 1 for names in seekers]):
        raise InvalidOperation("no tuple of ascending tuples of columns, or too many of them in one")
    return tuple([table[names] for names in seekers])


def width_paper(question, width):
    """Any width paper: a bag tree of at most this width, or an escape table for it."""
    table = escape_table(question, width)
    return ("bags", bag_tree(question)) if table is None else ("escape", table)


def is_width_paper(question, width, value):
    """Whether the value is a width paper."""
    check_questions(question)
    _check_width(width)
    if not is_pair(value):
        return False
    word, paper = value
    if word == "bags":
        return is_bag_tree(question, paper) and width_by(question, paper) <= width
    return word == "escape" and _is_escape(question, width, paper)
