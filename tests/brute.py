"""What the tests compare with: searches through all tuples and dicts, and questions and stores by chance."""

import itertools

from joinhouse.base.questions import Question
from joinhouse.base.stores import Store
from joinhouse.split.rules import Scheme

WIDTHS = {"r": 2, "s": 2, "t": 1, "w": 3}


def asking(*told):
    """A question from texts like `r a b`, and one like `asked a` at the end, if columns are asked."""
    return Question.from_lines(*[text if text.startswith("asked") else "clause " + text for text in told])


def edges(*pairs):
    """The question without asked columns of some pairs of letters in one table `e`."""
    return Question(tuple(sorted({("e", tuple(pair)) for pair in pairs})), ())


def table(name, *rows):
    """The store of one table with some rows."""
    return Store({name: len(rows[0])}, {name: tuple(rows)})


def all_readings(question, store):
    """All readings, by a search through all tuples of values."""
    found = []
    for values in itertools.product(store.domain, repeat=len(question.columns)):
        led = dict(zip(question.columns, values))
        if all((table, tuple(led[column] for column in columns)) in store for table, columns in question.clauses):
            found.append(values)
    return found


def all_answers(question, store):
    """A dict from all answers, ascending, to their counts."""
    places = [question.columns.index(column) for column in question.asked]
    found = {}
    for reading in all_readings(question, store):
        answer = tuple(reading[place] for place in places)
        found[answer] = found.get(answer, 0) + 1
    return {answer: found[answer] for answer in sorted(found)}


def all_maps(one, other):
    """All maps, ascending by the tuples of their values, by a search through all dicts."""
    found = []
    for names in itertools.product(other.columns, repeat=len(one.columns)):
        led = dict(zip(one.columns, names))
        if tuple(led[column] for column in one.asked) == other.asked and all(
                (table, tuple(led[column] for column in columns)) in other for table, columns in one.clauses):
            found.append(led)
    return found


def all_parts(question):
    """All questions with some of the clauses of a question and the same asked columns."""
    found = []
    for many in range(1, len(question) + 1):
        for clauses in itertools.combinations(question.clauses, many):
            if set(question.asked) <= {column for _, columns in clauses for column in columns}:
                found.append(Question(clauses, question.asked))
    return found


def some_question(chance, *, letters="abc", tables="rstw", most=4, many=None):
    """A question by chance, with so many asked columns if this is told."""
    while True:
        clauses = set()
        for _ in range(chance.randint(1, most)):
            name = chance.choice(tables)
            clauses.add((name, tuple(chance.choices(letters, k=WIDTHS[name]))))
        columns = sorted({column for _, names in clauses for column in names})
        asked = chance.randint(0, len(columns)) if many is None else many
        if asked <= len(columns):
            return Question(tuple(sorted(clauses)), tuple(chance.sample(columns, asked)))


def some_store(chance, *, most=6, values=4, tables="rstw", great=10 ** 59):
    """A store by chance, with some of its tables empty, and values that are not just the least ones."""
    domain = [chance.choice((0, 7, great)) + number for number in range(values)]
    rows = {}
    for name in tables:
        many = chance.choice((0, 1, 2, most, most)) if chance.random() < 0.5 else chance.randint(1, most)
        rows[name] = tuple({tuple(chance.choices(domain, k=WIDTHS[name])) for _ in range(many)})
    return Store({name: WIDTHS[name] for name in tables}, rows)


def shuffled(chance, store):
    """A store with other values, one to one."""
    others = chance.sample(range(3 * len(store.domain) + 3), len(store.domain))
    return store.renamed(dict(zip(store.domain, others)))


def shape(*texts, asked=()):
    """The plain question of the tables `ta`, `tb`, .., whose clauses have the columns that the texts tell by letters."""
    return Question(tuple(("t" + letter, tuple(text)) for letter, text in zip("abcdefgh", texts)), tuple(asked))


def ring_of(columns):
    """The plain question in which each two neighbours of a ring of columns stand in a clause."""
    return shape(*[one + other for one, other in zip(columns, columns[1:] + columns[0])])


def crown_of(columns):
    """The plain question of all clauses with all columns but one."""
    return shape(*[columns.replace(column, "") for column in columns])


def some_shape(chance, *, letters="abcde", most=5, wide=3, many=None):
    """A plain question by chance; columns can stand twice in a clause."""
    texts = ["".join(chance.choices(letters, k=chance.randint(1, wide))) for _ in range(many or chance.randint(1, most))]
    columns = sorted(set("".join(texts)))
    return shape(*texts, asked=chance.sample(columns, chance.randint(0, len(columns))))


def store_for(chance, question, *, most=6, values=3, others=True):
    """A store by chance that fits a plain question, with another table beside."""
    rows = {}
    for table, width in question.tables.items():
        many = chance.choice((most, most, most, 2, 1, 0) if chance.random() < 0.2 else (most,))
        rows[table] = tuple({tuple(chance.choices(range(values), k=width)) for _ in range(many)})
    tables = question.tables
    if others:
        tables["other"] = 1
        rows["other"] = ((99,),)
    return Store(tables, rows)


def clause_sets(question):
    """The sets of the clauses."""
    return [frozenset(columns) for _, columns in question.clauses]


def agrees_itself(columns, row):
    """Whether a row agrees with itself where a column stands twice."""
    led = dict(zip(columns, row))
    return all(led[column] == value for column, value in zip(columns, row))


def agree(columns, row, others, other):
    """Whether two rows agree in all common columns."""
    one, two = dict(zip(columns, row)), dict(zip(others, other))
    return all(one[column] == two[column] for column in one if column in two)


def rows_in_readings(question, store):
    """The tuple of the tuples of the rows that the clauses read in some reading."""
    found = [set() for _ in question.clauses]
    for reading in all_readings(question, store):
        led = dict(zip(question.columns, reading))
        for at, (_, columns) in enumerate(question.clauses):
            found[at].add(tuple(led[column] for column in columns))
    return tuple(tuple(sorted(rows)) for rows in found)


def is_connected(things, links):
    """Whether one gets from each of some things to each other one along links between them."""
    things = set(things)
    reached = {min(things)}
    while True:
        more = {end for link in links for end in link if set(link) <= things and reached & set(link)} | reached
        if more == reached:
            return reached == things
        reached = more


def all_sides(columns):
    """All ascending tuples of some columns."""
    return [side for many in range(len(columns) + 1) for side in itertools.combinations(columns, many)]


def some_rule(chance, columns):
    """A rule for columns by chance."""
    left = tuple(sorted(chance.sample(columns, min(len(columns), chance.choice((0, 1, 1, 1, 2, 2, 3))))))
    right = tuple(sorted(chance.sample(columns, min(len(columns), chance.choice((1, 1, 2))))))
    return left, right


def some_scheme(chance, *, letters="abcde", most=4):
    """A scheme by chance."""
    columns = tuple(letters)
    rules = {some_rule(chance, columns) for _ in range(chance.randint(0, most))}
    return Scheme(columns, tuple(sorted(rules)))
