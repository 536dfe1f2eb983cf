"""A second, plain way to ask of programs what quotehall.kinds and quotehall.telling tell: by calls within calls."""

from quotehall.errors import NoName, TooGreat, WrongKind, WrongLevel
from tests import plain_terms

NUMBERS = ("sum", "product", "less")


def kind(term, level=0, barred=False, bound=()):
    """The kind of a term; bound are (name, level, kind of a value, kinds of a function's x and a), innermost first."""
    word = term[0]
    if level == 1 and word in ("quote", "lift", "run") or level == 0 and word == "hole":
        raise WrongLevel(word)
    if word == "num":
        return "number"
    if word == "name":
        _, _, value, _ = find(term[1], level, bound)
        if value is None:
            raise WrongKind("a function")
        return value
    if word in NUMBERS:
        want("number", term[1], level, barred, bound)
        want("number", term[2], level, barred, bound)
        return "number"
    if word == "when":
        want("number", term[1], level, barred, bound)
        first = kind(term[2], level, barred, bound)
        want(first, term[3], level, barred, bound)
        return first
    if word == "let":
        first = kind(term[2], level, barred, bound)
        return kind(term[3], level, barred, ((term[1], level, first, None),) + bound)
    if word == "turns":
        first = kind(term[3], level, barred, bound)
        want(first, term[4], level, barred, ((term[2], level, first, None),) + bound)
        return first
    if word == "def":
        if level == 1 and term[3] == "piece":
            raise WrongKind("def")
        inner = kind(term[4], level, True, ((term[2], level, term[3], None),) + bound)
        return kind(term[5], level, barred, ((term[1], level, None, (term[3], inner)),) + bound)
    if word == "use":
        _, _, _, function = find(term[1], level, bound)
        if function is None:
            raise WrongKind("no function")
        want(function[0], term[2], level, barred, bound)
        return function[1]
    if word == "quote":
        want("number", term[1], 1, True, bound)
        return "piece"
    if word == "hole":
        want("piece", term[1], 0, True, bound)
        return "number"
    if word == "lift":
        want("number", term[1], level, barred, bound)
        return "piece"
    if barred:
        raise WrongLevel("run")
    want("piece", term[1], level, barred, bound)
    return "number"


def want(wanted, term, level, barred, bound):
    if kind(term, level, barred, bound) != wanted:
        raise WrongKind(wanted)


def find(name, level, bound):
    for entry in bound:
        if entry[0] == name:
            if entry[1] != level:
                raise WrongLevel(name)
            return entry
    raise NoName(name)


class Asking:
    """One asking of told or made, by calls within calls."""

    def __init__(self):
        self.count = 0

    def new(self):
        self.count += 1
        return "v%d" % self.count

    def value(self, term, names):
        word = term[0]
        if word == "num":
            return term[1] % 1000003
        if word == "name":
            return names[term[1]]
        if word in NUMBERS:
            left, right = [self.value(part, names) for part in term[1:]]
            return {"sum": left + right, "product": left * right, "less": int(left < right)}[word] % 1000003
        if word == "when":
            return self.value(term[2] if self.value(term[1], names) else term[3], names)
        if word == "let":
            return self.value(term[3], dict(names, **{term[1]: self.value(term[2], names)}))
        if word == "turns":
            value = self.value(term[3], names)
            for _ in range(term[1]):
                value = self.value(term[4], dict(names, **{term[2]: value}))
            return value
        if word == "def":
            def function(value):
                return self.value(term[4], dict(names, **{term[2]: value}))
            return self.value(term[5], dict(names, **{term[1]: function}))
        if word == "use":
            return names[term[1]](self.value(term[2], names))
        if word == "lift":
            return ("num", self.value(term[1], names))
        if word == "run":
            return self.value(self.value(term[1], names), {})
        piece = self.piece(term[1], names)
        if plain_terms.size(piece) > 2000 or plain_terms.depth(piece) > 30:
            raise TooGreat("a quote")
        return piece

    def piece(self, term, names):
        word = term[0]
        if word == "num":
            return term
        if word == "hole":
            return self.value(term[1], names)
        if word in ("name", "use"):
            return (word, names[term[1]]) + tuple(self.piece(part, names) for part in term[2:])
        if word == "let":
            new = self.new()
            return (word, new, self.piece(term[2], names), self.piece(term[3], dict(names, **{term[1]: new})))
        if word == "turns":
            new = self.new()
            return (word, term[1], new, self.piece(term[3], names),
                    self.piece(term[4], dict(names, **{term[2]: new})))
        if word == "def":
            new, value = self.new(), self.new()
            return (word, new, value, term[3], self.piece(term[4], dict(names, **{term[2]: value})),
                    self.piece(term[5], dict(names, **{term[1]: new})))
        return (word,) + tuple(self.piece(part, names) for part in term[1:])


def told(term):
    if kind(term) != "number":
        raise WrongKind("a piece")
    return Asking().value(term, {})


def made(term):
    if kind(term) != "piece":
        raise WrongKind("a number")
    return Asking().value(term, {})
