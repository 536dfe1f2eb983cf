"""Levels and kinds: whether a program is a number or a piece, and what is first wrong with one that is refused."""

from quotehall.errors import NoName, WrongKind, WrongLevel
from quotehall.terms import loose_in_rows, rows_of

# The words that stand at one level alone.
LEVEL_OF = {"quote": 0, "hole": 1, "lift": 0, "run": 0}


def kind_of(term):
    """The kind of a program, "number" or "piece"; the first thing that is wrong in it is refused."""
    rows = rows_of(term)
    return Kinds(rows).kind_at(len(rows) - 1, Around(0, False, {}))


class Around:
    """What stands round a term: its level, whether run is barred there, and what the names in force mean.

    A name means ("value", level, kind) or ("function", level, kind of its x, kind of its a).
    """

    def __init__(self, level, barred, names):
        self.level = level
        self.barred = barred
        self.names = names

    def within_quote(self):
        """What stands round the part of a quote that stands here."""
        return Around(1, True, self.names)

    def within_hole(self):
        """What stands round the part of a hole that stands here."""
        return Around(0, True, self.names)

    def with_value(self, name, kind):
        """What stands round the parts in which a name is bound, here, as a value."""
        return Around(self.level, self.barred, {**self.names, name: ("value", self.level, kind)})

    def with_function(self, name, wanted, kind):
        """What stands round the part in which a name is bound, here, as a function."""
        return Around(self.level, self.barred, {**self.names, name: ("function", self.level, wanted, kind)})

    def within_function(self, name, kind):
        """What stands round the a of a def that stands here, with its x."""
        return Around(self.level, True, {**self.names, name: ("value", self.level, kind)})

    def meaning_of(self, name):
        """What a name means that stands here, as a value or as a function."""
        if name not in self.names:
            raise NoName(f"{name} means nothing")
        meaning = self.names[name]
        if meaning[1] != self.level:
            raise WrongLevel(f"{name} is of level {meaning[1]} and stands at level {self.level}")
        return meaning


class Kinds:
    """The kinds of the terms of some rows, wherever these stand.

    A term that stands in another very often, as one thirty deep may, would be looked at too often. So it is looked at
    once for all the places where its level is the same, run is barred or not alike, and its loose names mean the same.
    """

    def __init__(self, rows):
        self.rows = rows
        self.loose = loose_in_rows(rows)
        self.known = {}

    def kind_at(self, place, around):
        """The kind of the term at a place among the rows, with this around it."""
        meanings = tuple([around.names.get(name) for name in self.loose[place]])
        key = (place, around.level, around.barred, meanings)
        if key not in self.known:
            self.known[key] = self.looked_at(place, around)
        return self.known[key]

    def looked_at(self, place, around):
        """The same, looked at anew."""
        head, places = self.rows[place]
        if LEVEL_OF.get(head[0], around.level) != around.level:
            raise WrongLevel(f"{head[0]} stands at level {around.level}")
        look = LOOKS[head[0]]
        return look(self, head, places, around)

    def want(self, kind, place, around):
        """Refuses a term that is of another kind than this one, behind all that is wrong within it."""
        if self.kind_at(place, around) != kind:
            raise WrongKind(f"a {kind} is wanted")


def look_at_num(kinds, head, places, around):
    """A num is a number."""
    return "number"


def look_at_name(kinds, head, places, around):
    """A name is of the kind of what it means, which is no function."""
    meaning = around.meaning_of(head[1])
    if meaning[0] == "function":
        raise WrongKind(f"{head[1]} is a function")
    return meaning[2]


def look_at_numbers(kinds, head, places, around):
    """A number, of numbers alone."""
    for place in places:
        kinds.want("number", place, around)
    return "number"


def look_at_when(kinds, head, places, around):
    """A when has a number ahead of two that are alike, and is of their kind."""
    kinds.want("number", places[0], around)
    kind = kinds.kind_at(places[1], around)
    kinds.want(kind, places[2], around)
    return kind


def look_at_let(kinds, head, places, around):
    """A let is of the kind of b."""
    kind = kinds.kind_at(places[0], around)
    return kinds.kind_at(places[1], around.with_value(head[1], kind))


def look_at_turns(kinds, head, places, around):
    """A turns is of the kind of a, and so is b."""
    kind = kinds.kind_at(places[0], around)
    kinds.want(kind, places[1], around.with_value(head[2], kind))
    return kind


def look_at_def(kinds, head, places, around):
    """A def is of the kind of b. At level 1 there are numbers alone."""
    if around.level == 1 and head[3] != "number":
        raise WrongKind(f"{head[1]} stands at level 1 and is a function of a piece")
    kind = kinds.kind_at(places[0], around.within_function(head[2], head[3]))
    return kinds.kind_at(places[1], around.with_function(head[1], head[3], kind))


def look_at_use(kinds, head, places, around):
    """A use is of the kind of the function's a."""
    meaning = around.meaning_of(head[1])
    if meaning[0] != "function":
        raise WrongKind(f"{head[1]} is no function")
    kinds.want(meaning[2], places[0], around)
    return meaning[3]


def look_at_quote(kinds, head, places, around):
    """A quote is a piece, of a number."""
    kinds.want("number", places[0], around.within_quote())
    return "piece"


def look_at_hole(kinds, head, places, around):
    """A hole is a number, of a piece."""
    kinds.want("piece", places[0], around.within_hole())
    return "number"


def look_at_lift(kinds, head, places, around):
    """A lift is a piece, of a number."""
    kinds.want("number", places[0], around)
    return "piece"


def look_at_run(kinds, head, places, around):
    """A run is a number, of a piece."""
    if around.barred:
        raise WrongLevel("run has a quote, a hole or a function round it")
    kinds.want("piece", places[0], around)
    return "number"


LOOKS = {
    "num": look_at_num,
    "name": look_at_name,
    "sum": look_at_numbers,
    "product": look_at_numbers,
    "less": look_at_numbers,
    "when": look_at_when,
    "let": look_at_let,
    "turns": look_at_turns,
    "def": look_at_def,
    "use": look_at_use,
    "quote": look_at_quote,
    "hole": look_at_hole,
    "lift": look_at_lift,
    "run": look_at_run,
}
