"""Schemes: the columns of a wide table, and rules by which some of them decide others."""

from joinhouse.base.plans import columns_in, mask_of
from joinhouse.base.readings import are_values
from joinhouse.base.words import are_names, is_ascending, is_index, is_naming, is_pair, is_width, words_of
from joinhouse.errors import InvalidOperation, InvalidRow, InvalidRule, InvalidScheme, ParseError, UnknownName
from joinhouse.shape.agreeing import values_in
from joinhouse.shape.masks import within

MAX_RULES = 12

_ARROW = "->"


def are_ascending_names(value):
    """Whether the value is an ascending tuple of names, which can be empty."""
    return are_names(value) and is_ascending(value)


def are_columns_of(columns, value):
    """Whether the value is an ascending tuple of some columns, which can be empty."""
    return are_ascending_names(value) and all([column in columns for column in value])


def _is_rule_for(columns, value):
    """Whether the value is a rule for some columns."""
    if not is_pair(value) or not are_columns_of(columns, value[0]) or not are_columns_of(columns, value[1]):
        return False
    return len(value[1]) > 0


def _are_rules(columns, value):
    """Whether the value is an ascending tuple of at most twelve rules for some columns."""
    if not isinstance(value, tuple) or len(value) > MAX_RULES:
        return False
    return all([_is_rule_for(columns, rule) for rule in value]) and is_ascending(value)


def _columns_or_rule(line):
    """A pair of the first word of a line and of what it tells, None for a value that is no line."""
    words = words_of(line)
    if words[0] == "columns" and len(words) > 1 and are_ascending_names(words[1:]):
        return "columns", words[1:]
    if words[0] != "rule" or words.count(_ARROW) != 1:
        return None
    at = words.index(_ARROW)
    left, right = words[1:at], words[at + 1:]
    if not right or not are_ascending_names(left) or not are_ascending_names(right):
        return None
    return "rule", (left, right)


def _line_of(rule):
    """The line that tells a rule."""
    left, right = rule
    return " ".join(["rule", *left, _ARROW, *right])


class Scheme:
    """The columns of a wide table, and its rules. It never changes."""

    def __init__(self, columns, rules):
        if not are_ascending_names(columns) or not is_width(len(columns)) or not _are_rules(columns, rules):
            raise InvalidScheme("no scheme has these columns and rules")
        self._columns = columns
        self._rules = rules

    @classmethod
    def from_lines(cls, *lines):
        """The scheme with these lines, in any order."""
        columns = ()
        rules = []
        for at, line in enumerate(lines):
            told = _columns_or_rule(line)
            if told is None or told[1] in rules or (told[0] == "columns" and columns):
                raise ParseError(at)
            if told[0] == "columns":
                columns = told[1]
            else:
                rules.append(told[1])
        return cls(columns, tuple(sorted(rules)))

    @property
    def columns(self):
        """The ascending tuple of the columns."""
        return self._columns

    @property
    def rules(self):
        """The ascending tuple of the rules."""
        return self._rules

    @property
    def lines(self):
        """The tuple of the lines that tell this scheme."""
        return (" ".join(["columns", *self._columns]), *[_line_of(rule) for rule in self._rules])

    def with_rule(self, rule):
        """This scheme with one rule more."""
        if not _is_rule_for(self._columns, rule) or rule in self._rules:
            raise InvalidRule("no rule for these columns, or it is there already")
        return Scheme(self._columns, tuple(sorted([*self._rules, rule])))

    def without_rule(self, rule):
        """This scheme with one rule less."""
        if not _is_rule_for(self._columns, rule) or rule not in self._rules:
            raise InvalidRule("no such rule is there")
        return Scheme(self._columns, tuple([other for other in self._rules if other != rule]))

    def renamed(self, names):
        """This scheme with other columns, different ones for different ones."""
        if not is_naming(self._columns, names):
            raise InvalidOperation("no dict from just the columns to different names")
        rules = [tuple([tuple(sorted([names[name] for name in side])) for side in rule]) for rule in self._rules]
        return Scheme(tuple(sorted(names.values())), tuple(sorted(rules)))

    def __contains__(self, value):
        return _is_rule_for(self._columns, value) and value in self._rules

    def __len__(self):
        return len(self._rules)

    def __iter__(self):
        return iter(self._rules)

    def __eq__(self, other):
        return isinstance(other, Scheme) and self._columns == other._columns and self._rules == other._rules

    def __str__(self):
        return f"scheme of {len(self._columns)} columns, {len(self._rules)} rules"


def check_scheme(value):
    """Refuses what is no scheme."""
    if not isinstance(value, Scheme):
        raise InvalidScheme("no scheme")


def are_rows_of(scheme, value):
    """Whether the value is an ascending tuple of rows of a scheme."""
    many = len(scheme.columns)
    return isinstance(value, tuple) and all([are_values(many, row) for row in value]) and is_ascending(value)


def _keep_rule(scheme, rows, rule):
    """Whether rows keep a rule."""
    left, right = [[scheme.columns.index(column) for column in side] for side in rule]
    seen = {}
    for row in rows:
        values = values_in(row, right)
        if seen.setdefault(values_in(row, left), values) != values:
            return False
    return True


def keep_all(scheme, rows):
    """Whether rows of a scheme keep all of its rules."""
    return all([_keep_rule(scheme, rows, rule) for rule in scheme.rules])


def keeps(scheme, rows):
    """Whether an ascending tuple of rows keeps all rules of a scheme."""
    check_scheme(scheme)
    if not are_rows_of(scheme, rows):
        raise InvalidRow("no ascending tuple of rows of the scheme")
    return keep_all(scheme, rows)


def mask_of_names(columns, names):
    """The set of some of ascending columns, as bits."""
    return mask_of([columns.index(name) for name in names])


def names_in(columns, mask):
    """The ascending tuple of the columns of a set."""
    return tuple([columns[number] for number in columns_in(mask)])


class Closing:
    """The rules of a scheme as pairs of sets of columns."""

    def __init__(self, scheme):
        self._pairs = [
            (mask_of_names(scheme.columns, left), mask_of_names(scheme.columns, right)) for left, right in scheme.rules
        ]

    def closed(self, mask):
        """All columns that a set decides."""
        while True:
            more = mask
            for left, right in self._pairs:
                if within(left, more):
                    more |= right
            if more == mask:
                return mask
            mask = more

    def used(self, mask, aim):
        """The list of the indices of rules by which a set decides another set, one behind the other; as far as it does.

        None of them is used before all that it needs is decided, or decides nothing new.
        """
        found = []
        going = True
        while going and not within(aim, mask):
            going = False
            for at, (left, right) in enumerate(self._pairs):
                if within(left, mask) and not within(right, mask):
                    mask |= right
                    found.append(at)
                    going = True
        return found


def _check_columns(scheme, columns):
    """Refuses what is no scheme, and no ascending tuple of its columns."""
    check_scheme(scheme)
    if not are_columns_of(scheme.columns, columns):
        raise InvalidOperation("no ascending tuple of columns of the scheme")


def closure(scheme, columns):
    """The ascending tuple of all columns that some columns decide."""
    _check_columns(scheme, columns)
    return names_in(scheme.columns, Closing(scheme).closed(mask_of_names(scheme.columns, columns)))


def decides(scheme, columns, column):
    """Whether some columns decide a column."""
    _check_columns(scheme, columns)
    if column not in scheme.columns:
        raise UnknownName(column)
    return column in closure(scheme, columns)


def least_keys(scheme):
    """The ascending tuple of the tuples of columns that decide all columns, and of which no part does."""
    check_scheme(scheme)
    closing = Closing(scheme)
    every = (1 << len(scheme.columns)) - 1
    found = []
    # All parts of a set are less than it.
    for mask in range(every + 1):
        if not any([within(key, mask) for key in found]) and closing.closed(mask) == every:
            found.append(mask)
    return tuple(sorted([names_in(scheme.columns, mask) for mask in found]))


def _check_rule(scheme, rule):
    """Refuses what is no scheme, and no rule for its columns."""
    check_scheme(scheme)
    if not _is_rule_for(scheme.columns, rule):
        raise InvalidRule("no rule for the columns of the scheme")


def follows(scheme, rule):
    """Whether each tuple of rows that keeps all rules of a scheme keeps a rule."""
    _check_rule(scheme, rule)
    left, right = rule
    return within(mask_of_names(scheme.columns, right), mask_of_names(scheme.columns, closure(scheme, left)))


def derivation(scheme, rule):
    """Any derivation of a rule, None if there is none."""
    if not follows(scheme, rule):
        return None
    left, right = [mask_of_names(scheme.columns, side) for side in rule]
    return tuple(Closing(scheme).used(left, right))


def is_derivation(scheme, rule, value):
    """Whether the value is a derivation of a rule."""
    _check_rule(scheme, rule)
    if not isinstance(value, tuple) or not all([is_index(len(scheme), at) for at in value]):
        return False
    known, aim = [list(side) for side in rule]
    seen = {}
    for at in value:
        left, right = scheme.rules[at]
        if at in seen or not all([column in known for column in left]):
            return False
        seen[at] = True
        known.extend(right)
    return all([column in known for column in aim])


def parting_pair(scheme, rule):
    """Any parting pair for a rule, None if there is none."""
    if follows(scheme, rule):
        return None
    decided = closure(scheme, rule[0])
    return tuple([0 for _ in scheme.columns]), tuple([0 if column in decided else 1 for column in scheme.columns])


def is_parting_pair(scheme, rule, value):
    """Whether the value is a parting pair for a rule."""
    _check_rule(scheme, rule)
    if not is_pair(value) or not are_rows_of(scheme, value):
        return False
    return keep_all(scheme, value) and not _keep_rule(scheme, value, rule)
