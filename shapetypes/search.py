"""Follows the steps from pairs, and learns from what is reached."""

from shapetypes.books import Region


def reached_pairs(book, question, limit):
    """All pairs that are reached for a question, and the first one of them that fails, or None.

    The pairs tell how they were reached first: from which pair, by a step to which question, or None. As
    they are looked at in the order in which they are reached, no pair is reached by fewer steps. If more
    than limit pairs are reached, None is told in place of the pairs.
    """
    first = book.pairs_of(question)
    came = {pair: None for pair in first}
    queue = list(first)
    seen = {}
    failing = None
    at = 0
    while at < len(queue):
        pair = queue[at]
        if len(queue) > limit or pair in book.far:
            if len(first) == 1:
                book.far[first[0]] = True
            return None, None
        at += 1
        steps = book.steps(pair)
        if steps is None:
            failing = pair if failing is None else failing
            continue
        for following in steps:
            if following not in seen:
                seen[following] = True
                fresh = [told for told in book.pairs_of(following) if told not in came]
                came.update({told: (pair, following) for told in fresh})
                queue.extend(fresh)
    return came, failing


def outcome_of(book, question, limit):
    """Whether the shapes of a question fit, or None if more than limit pairs are reached."""
    pairs = book.pairs_of(question)
    if all([pair in book.regions for pair in pairs]):
        regions = {book.regions[pair]: True for pair in pairs}
        if sum([region.many for region in regions]) <= limit:
            return all([book.good[pair] for pair in pairs])
    came, failing = reached_pairs(book, question, limit)
    if came is None:
        return None
    learn(book, came, failing)
    return failing is None


def learn(book, came, failing):
    """Keep of all reached pairs whether their atoms fit their shapes, and that steps do not leave them."""
    bad = {} if failing is None else bad_pairs(book, came)
    region = Region(len(came))
    for pair in came:
        book.good[pair] = pair not in bad
        if pair not in book.regions or book.regions[pair].many < region.many:
            book.regions[pair] = region


def bad_pairs(book, came):
    """The reached pairs that fail, or from which steps lead to one that fails."""
    bad = {}
    leading = {}
    for pair in came:
        steps = book.steps(pair)
        if steps is None:
            bad[pair] = True
        else:
            for question in steps:
                leading.setdefault(question, []).append(pair)
    holding = {}
    for question in leading:
        for pair in book.pairs_of(question):
            holding.setdefault(pair, []).append(question)
    queue = list(bad)
    at = 0
    while at < len(queue):
        questions = holding.get(queue[at], [])
        at += 1
        for question in questions:
            # All pairs with a step to this question are bad now: it need not be looked at again.
            fresh = [pair for pair in leading.pop(question, []) if pair not in bad]
            bad.update({pair: True for pair in fresh})
            queue.extend(fresh)
    return bad
