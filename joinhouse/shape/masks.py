"""The columns of a question as the bits of integers: the ascending columns have the bits from the lowest one on."""

from joinhouse.base.plans import columns_in, mask_of


def clause_masks(question):
    """The list of the sets of the clauses."""
    numbers = {column: number for number, column in enumerate(question.columns)}
    return [mask_of([numbers[column] for column in columns]) for _, columns in question.clauses]


def all_columns(question):
    """The set of all columns of a question."""
    return (1 << len(question.columns)) - 1


def near_masks(question):
    """The list of the sets of the neighbours of the columns: of the other columns that a clause has beside them."""
    masks = clause_masks(question)
    near = []
    for column in range(len(question.columns)):
        together = 0
        for mask in masks:
            if mask >> column & 1:
                together |= mask
        near.append(together & ~(1 << column))
    return near


def named(question, mask):
    """The ascending tuple of the columns of a set."""
    return tuple([question.columns[number] for number in columns_in(mask)])


def within(one, other):
    """Whether a set has no columns that another one has not."""
    return one & ~other == 0


def grown(near, some, mask):
    """All columns of a set that one comes to from some columns of it by neighbours, without leaving it."""
    while True:
        more = some
        for column in columns_in(some):
            more |= near[column] & mask
        if more == some:
            return some
        some = more


def parted(near, mask):
    """The list of the sets of columns of a set that hang together by neighbours, by their least columns."""
    found = []
    while mask:
        some = grown(near, mask & -mask, mask)
        found.append(some)
        mask &= ~some
    return found
