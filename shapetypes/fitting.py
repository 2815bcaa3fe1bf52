"""Decides whether a shape fits another one: whether it allows everything that the other one allows."""

from shapetypes.errors import InvalidAnswer, TooLarge, UnknownName, WrongArguments
from shapetypes.search import outcome_of, reached_pairs
from shapetypes.shapes import Atom, Shape

MAX_PAIRS = 2000
DERIVATION = "derivation"
USE = "use"
# An atom has at most five methods: so one of these names is none of them.
OTHER_NAMES = ("a", "b", "c", "d", "e", "f")


def fits(world, source, target):
    """Whether the source fits the target."""
    book = world.book()
    return is_fitting(book, book.enter(source), book.enter(target))


def are_alike(world, one, other):
    """Whether two shapes fit each other."""
    book = world.book()
    first = book.enter(one)
    second = book.enter(other)
    return is_fitting(book, first, second) and is_fitting(book, second, first)


def decide(world, source, target):
    """A derivation for two shapes, or a breaking use that is as short as possible."""
    book = world.book()
    question = book.question(book.enter(source), book.enter(target))
    came, failing = reached_pairs(book, question, MAX_PAIRS)
    if came is None:
        raise TooLarge(MAX_PAIRS)
    if failing is not None:
        return USE, path_to(book, came, failing)
    pairs = [book.pair_at(pair) for pair in came]
    return DERIVATION, tuple([(book.atom_of(part), book.shape_of(shape)) for part, shape in pairs])


def check_decision(world, source, target, answer):
    """The first item of an answer of decide, or another answer that is correct."""
    book = world.book()
    first = book.enter(source)
    second = book.enter(target)
    if not is_answer(answer):
        raise InvalidAnswer("form")
    word, given = answer
    if word == DERIVATION:
        right = is_derivation(book, first, second, given)
    else:
        right = is_breaking(book, first, second, given)
    if not right:
        raise InvalidAnswer(word)
    return word


def is_fitting(book, source, target):
    """Whether a shape fits another one, both told by number."""
    question = book.question(source, target)
    if question not in book.outcomes:
        book.outcomes[question] = outcome_of(book, question, MAX_PAIRS)
    if book.outcomes[question] is None:
        raise TooLarge(MAX_PAIRS)
    return book.outcomes[question]


def path_to(book, came, failing):
    """The shortest breaking use that ends at a pair that fails."""
    uses = [last_use(book, failing)]
    reached = came[failing]
    while reached is not None:
        pair, question = reached
        method, spot = book.use_between(pair, question)
        uses.append(book.plan.use_at(method, spot))
        reached = came[pair]
    return tuple(uses[::-1])


def last_use(book, pair):
    """A use that the shape of a pair that fails allows, and its atom does not."""
    failing = book.failing_use(pair)
    if failing is not None:
        method, spot = failing
        return book.plan.use_at(method, spot)
    part, _ = book.pair_at(pair)
    name, _ = book.row_of(part)
    methods = [method for method, _, _ in book.plan.templates(name)]
    others = [other for other in OTHER_NAMES if other not in methods]
    return others[0], ()


def is_answer(value):
    """Whether any value has the form of an answer."""
    if not isinstance(value, tuple) or len(value) != 2 or not isinstance(value[0], str):
        return False
    return value[0] in (DERIVATION, USE)


def is_derivation(book, source, target, value):
    """Whether any value is a derivation for two shapes."""
    if not isinstance(value, tuple):
        return False
    told = {}
    for given in value:
        pair = pair_of(book, given)
        if pair is None:
            return False
        told[pair] = True
    if not all([pair in told for pair in book.pairs_of(book.question(source, target))]):
        return False
    return all([leads_nowhere_else(book, pair, told) for pair in told])


def pair_of(book, value):
    """The number of a pair of an atom and a shape of the world, or None for any other value."""
    if not isinstance(value, tuple) or len(value) != 2:
        return None
    part, shape = value
    if not isinstance(part, Atom) or not isinstance(shape, Shape):
        return None
    try:
        return book.pair_number(book.enter_atom(part), book.enter(shape))
    except (UnknownName, WrongArguments):
        return None


def leads_nowhere_else(book, pair, told):
    """Whether a pair does not fail, and its steps lead only to pairs that are told."""
    steps = book.steps(pair)
    if steps is None:
        return False
    return all([following in told for question in steps for following in book.pairs_of(question)])


def is_breaking(book, source, target, value):
    """Whether any value is a breaking use for two shapes."""
    if not isinstance(value, tuple) or not all([book.plan.is_use(use) for use in value]):
        return False
    result, _ = book.walk(source, value)
    others, _ = book.walk(target, value)
    return result is None and others is not None
