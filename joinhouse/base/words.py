"""Numbers, names and rows, and the words of a line."""

from math import gcd

from joinhouse.errors import InvalidNumber, InvalidOperation

MAX_LETTERS = 8
MAX_FIGURES = 60
MAX_WIDTH = 8

# The least number with more than MAX_FIGURES figures: to compare is quicker than to write the figures out.
_TOO_LONG = 10 ** 60


def is_integer(value):
    """Whether the value is an integer of at most sixty digits."""
    return isinstance(value, int) and not isinstance(value, bool) and -_TOO_LONG < value < _TOO_LONG


def is_count(value):
    """Whether the value is an integer of at least 0 and at most sixty digits."""
    return is_integer(value) and value >= 0


def is_index(many, value):
    """Whether the value is an index of one of so many things."""
    return is_count(value) and value < many


def is_pair(value):
    """Whether the value is a tuple of two things."""
    return isinstance(value, tuple) and len(value) == 2


def is_width(value):
    """Whether the value is a width that a table can have."""
    return is_integer(value) and 1 <= value <= MAX_WIDTH


def is_name(value):
    """Whether the value is a string of one to eight letters a to z."""
    if not isinstance(value, str) or not 1 <= len(value) <= MAX_LETTERS:
        return False
    return all(["a" <= letter <= "z" for letter in value])


def are_names(value):
    """Whether the value is a tuple of names, in which names can come twice."""
    return isinstance(value, tuple) and all([is_name(name) for name in value])


def is_row(value):
    """Whether the value is a tuple of one to eight integers of at least 0."""
    return isinstance(value, tuple) and is_width(len(value)) and all([is_count(number) for number in value])


def are_different(values):
    """Whether no two of some names, numbers, or tuples of them, are equal."""
    return len(set(values)) == len(values)


def is_ascending(values):
    """Whether each of some values is less than the next one."""
    return all([one < other for one, other in zip(values, values[1:])])


def is_dict_from(keys, value):
    """Whether the value is a dict whose keys are just some names or numbers."""
    if not isinstance(value, dict) or len(value) != len(set(keys)):
        return False
    # As a key, True is found where 1 is looked for.
    return all([key in value for key in keys]) and not any([isinstance(key, bool) for key in value])


def is_naming(names, value):
    """Whether the value is a dict from just some names to different names."""
    if not are_names(names):
        raise InvalidOperation("no tuple of names")
    if not is_dict_from(names, value):
        return False
    given = tuple(value.values())
    return are_names(given) and are_different(given)


def coprime(one, other):
    """The pair of coprime integers with the same quotient."""
    if not is_count(one):
        raise InvalidNumber(one)
    if not is_count(other) or other == 0:
        raise InvalidNumber(other)
    common = gcd(one, other)
    return one // common, other // common


def power(number, times):
    """A number multiplied with itself so many times, at least 0."""
    found = 1
    while times:
        if times & 1:
            found = found * number
        times = times >> 1
        if times:
            number = number * number
    return found


def words_of(line):
    """The words between single blanks; an empty word alone for a value that is no string."""
    return tuple(line.split(" ")) if isinstance(line, str) else ("",)


def is_figures(word):
    """Whether a word writes an integer of at least 0, without leading zeros."""
    if not word.isascii() or not word.isdigit() or len(word) > MAX_FIGURES:
        return False
    return word == "0" or not word.startswith("0")
