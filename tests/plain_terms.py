"""A second, plain way to ask of terms what quotehall.terms tells, and terms to ask it of."""

import random

PARTS_AT = {"num": 2, "name": 2, "sum": 1, "product": 1, "less": 1, "when": 1, "let": 2, "turns": 3, "def": 4,
            "use": 2, "quote": 1, "hole": 1, "lift": 1, "run": 1}
MANY_PARTS = {"num": 0, "name": 0, "sum": 2, "product": 2, "less": 2, "when": 3, "let": 2, "turns": 2, "def": 2,
              "use": 1, "quote": 1, "hole": 1, "lift": 1, "run": 1}
NAMES = ("x", "y", "f", "num", "let", "abcdefgh")


def parts(term):
    return term[PARTS_AT[term[0]]:]


def size(term):
    return 1 + sum(size(part) for part in parts(term))


def depth(term):
    return 1 + max((depth(part) for part in parts(term)), default=0)


def loose(term):
    found = []
    note_loose(term, (), found)
    return found


def note_loose(term, bound, found):
    """Goes along a term from the left and keeps the names that are not among the bound ones."""
    word = term[0]
    if word in ("name", "use") and term[1] not in bound and term[1] not in found:
        found.append(term[1])
    if word == "let":
        inner = [bound, bound + (term[1],)]
    elif word == "turns":
        inner = [bound, bound + (term[2],)]
    elif word == "def":
        inner = [bound + (term[2],), bound + (term[1],)]
    else:
        inner = [bound] * 3
    for part, names in zip(parts(term), inner):
        note_loose(part, names, found)


def bare(term):
    word = term[0]
    if word in ("quote", "hole", "lift", "run"):
        return bare(term[1])
    head = term[:PARTS_AT[word]]
    if word == "def":
        head = head[:3] + ("number",)
    return head + tuple(bare(part) for part in parts(term))


def short(term, deep=6):
    """The outermost of a term, for a failure's message: written out whole, some terms would fill the memory."""
    if deep == 0:
        return ("..",)
    return term[:PARTS_AT[term[0]]] + tuple(short(part, deep - 1) for part in parts(term))


def some_term(rng, deep, pool):
    """A term at most so deep, now and then one that stands elsewhere too."""
    if pool and rng.random() < 0.2:
        term = rng.choice(pool)
        if depth(term) <= deep:
            return term
    words = ("num", "name", "name") if deep == 1 else tuple(PARTS_AT)
    word = rng.choice(words)
    inner = tuple(some_term(rng, deep - 1, pool) for _ in range(MANY_PARTS[word]))
    term = some_head(rng, word) + inner
    pool.append(term)
    return term


def some_head(rng, word):
    if word == "num":
        return (word, rng.choice((0, 1, 7, -3, 10 ** 19, -10 ** 19)))
    if word in ("name", "let", "use"):
        return (word, rng.choice(NAMES))
    if word == "turns":
        return (word, rng.randrange(10), rng.choice(NAMES))
    if word == "def":
        return (word, rng.choice(NAMES), rng.choice(NAMES), rng.choice(("number", "piece")))
    return (word,)


def some_terms(many, deep):
    """The same terms each time that it is asked."""
    rng = random.Random(20261119)
    return [some_term(rng, deep, []) for _ in range(many)]
