"""Promises 5 and 6: the kind of a program, and what is refused, by the first thing that is wrong."""

import unittest

from quotehall import kinds
from quotehall.errors import HallError, NoName, WrongKind, WrongLevel
from quotehall.kinds import kind_of
from tests import plain_programs, plain_terms, some_programs

ONE = ("num", 1)
TWO = ("num", 2)
X = ("name", "x")
Y = ("name", "y")
F = ("name", "f")
P = ("quote", ONE)

# One of each thing that may be wrong within a term, where it stands at level 0 and where it stands at level 1.
WRONG = {
    0: ((("name", "nil"), NoName), (("hole", P), WrongLevel), (("sum", P, ONE), WrongKind)),
    1: ((("name", "nil"), NoName), (("lift", ONE), WrongLevel), (("sum", ONE, ("hole", ONE)), WrongKind)),
}


def quoted(term):
    """What stands at level 1."""
    return ("quote", term)


def holed(term):
    """What stands at level 0 again."""
    return ("quote", ("hole", term))


def let(name, a, b):
    return ("let", name, a, b)


def defined(kind, a, b):
    return ("def", "f", "x", kind, a, b)


def shared(deep, words=("when",), term=ONE):
    """A term that stands in itself many times over."""
    for at in range(deep):
        word = words[at % len(words)]
        term = (word, term, term, term) if word == "when" else (word, term, term)
    return term


class KindCase(unittest.TestCase):
    def told(self, kind, *terms):
        for term in terms:
            with self.subTest(term=plain_terms.short(term)):
                self.assertEqual(kind_of(term), kind)
                self.assertIs(type(kind_of(term)), str)

    def refused(self, refusal, *terms):
        for term in terms:
            with self.subTest(term=plain_terms.short(term)):
                with self.assertRaises(HallError) as caught:
                    kind_of(term)
                self.assertIs(type(caught.exception), refusal)


class KindOfTest(KindCase):
    def test_the_interface_stands_in_its_file(self):
        self.assertEqual(kind_of.__module__, kinds.__name__)

    def test_plain_words_are_numbers(self):
        self.told("number", ONE, ("sum", ONE, TWO), ("product", ONE, TWO), ("less", ONE, TWO), ("when", ONE, TWO, ONE),
                  let("x", ONE, X), ("turns", 3, "x", ONE, ("sum", X, X)), ("turns", 0, "x", ONE, X),
                  defined("number", ("sum", X, X), ("use", "f", ONE)))

    def test_quotes_and_lifts_are_pieces_and_runs_are_numbers(self):
        self.told("piece", P, ("lift", ONE), holed(P), ("lift", ("run", P)), quoted(("sum", ("hole", P), ONE)))
        self.told("number", ("run", P), ("run", ("lift", ONE)), ("run", ("quote", ("hole", P))))

    def test_a_program_that_fits_in_a_quote_lift_or_run(self):
        for number in (ONE, ("sum", ONE, TWO), let("x", ONE, X), defined("number", X, ("use", "f", ONE))):
            self.told("piece", quoted(number), ("lift", number))
            self.refused(WrongKind, ("run", number))
        for piece in (P, ("lift", ONE), let("x", P, X), ("when", ONE, P, P)):
            self.told("number", ("run", piece))
            self.told("piece", holed(piece))
            self.refused(WrongKind, ("lift", piece))

    def test_a_when_is_of_the_kind_of_both(self):
        self.told("piece", ("when", ONE, P, ("lift", ONE)))
        self.refused(WrongKind, ("when", P, ONE, ONE), ("when", ONE, P, ONE), ("when", ONE, ONE, P), ("when", P, P, P))

    def test_a_let_is_of_the_kind_of_b(self):
        self.told("number", let("x", P, ONE), let("x", P, ("run", X)), let("x", ONE, X))
        self.told("piece", let("x", ONE, P), let("x", P, X), let("x", ONE, ("lift", X)))
        self.refused(WrongKind, let("x", P, ("sum", X, ONE)), let("x", ONE, ("run", X)))

    def test_a_turns_is_of_the_kind_of_a_and_so_is_b(self):
        self.told("piece", ("turns", 2, "x", P, quoted(("hole", X))), ("turns", 0, "x", P, X))
        self.refused(WrongKind, ("turns", 2, "x", P, ONE), ("turns", 2, "x", ONE, P), ("turns", 0, "x", ONE, P),
                     ("turns", 2, "x", P, ("run", X)), ("turns", 2, "x", ONE, ("lift", X)))

    def test_a_def_and_its_uses(self):
        self.told("number", defined("number", X, ONE), defined("piece", X, ONE), defined("piece", X, ("run", P)),
                  defined("piece", X, ("run", ("use", "f", P))), defined("piece", ONE, ("use", "f", P)))
        self.told("piece", defined("number", X, P), defined("piece", X, ("use", "f", P)),
                  defined("number", ("lift", X), ("use", "f", ONE)), defined("piece", quoted(("hole", X)), P))
        self.refused(WrongKind, defined("number", X, ("use", "f", P)), defined("piece", X, ("use", "f", ONE)),
                     defined("piece", ("sum", X, ONE), ONE), defined("number", quoted(("hole", X)), ONE),
                     defined("piece", X, ("sum", ("use", "f", P), ONE)),
                     defined("number", X, ("run", ("use", "f", ONE))))

    def test_at_level_1_every_term_is_a_number(self):
        for term in (let("x", ONE, X), ("turns", 2, "x", ONE, X), ("when", ONE, ("hole", P), ONE),
                     defined("number", X, ("use", "f", ("hole", P))), let("x", ("hole", P), X)):
            self.told("piece", quoted(term))
        self.refused(WrongKind, quoted(defined("piece", X, ONE)), quoted(defined("piece", ONE, ("use", "f", ONE))),
                     quoted(("sum", ONE, defined("piece", X, ONE))), quoted(("hole", ONE)), holed(("sum", ONE, ONE)))

    def test_a_def_of_a_piece_within_a_hole_is_at_level_0(self):
        self.told("piece", holed(defined("piece", X, ("use", "f", P))))

    def test_functions_are_used_alone_and_only_functions_are_used(self):
        self.refused(WrongKind, defined("number", X, F), defined("piece", X, F), quoted(defined("number", X, F)),
                     let("x", ONE, ("use", "x", ONE)), let("x", P, ("use", "x", P)),
                     ("turns", 1, "x", ONE, ("use", "x", X)),
                     defined("number", ("use", "x", ONE), ONE), quoted(let("x", ONE, ("use", "x", ONE))),
                     defined("number", X, let("y", F, ONE)), defined("number", X, ("use", "f", F)))


class NamesTest(KindCase):
    def test_what_means_nothing(self):
        self.refused(NoName, X, ("use", "f", ONE), quoted(X), holed(X), ("lift", X), ("run", X), ("sum", ONE, X),
                     quoted(("use", "f", ONE)), ("when", ONE, ONE, X))

    def test_let_and_turns_bind_in_b_and_not_in_a(self):
        self.refused(NoName, let("x", X, ONE), ("turns", 2, "x", X, ONE), quoted(let("x", X, ONE)),
                     quoted(("turns", 2, "x", X, ONE)), ("sum", let("x", ONE, X), X))
        self.told("number", let("x", ONE, X), let("x", ONE, let("x", X, X)))

    def test_def_binds_x_in_a_and_f_in_b(self):
        self.refused(NoName, defined("number", ONE, X), defined("number", ("use", "f", X), ONE),
                     defined("number", ("use", "f", ONE), ("use", "f", ONE)), ("sum", defined("number", X, ONE), F),
                     quoted(defined("number", ONE, X)), quoted(defined("number", ("use", "f", X), ONE)))
        self.told("number", ("def", "f", "f", "number", F, ("use", "f", ONE)))
        self.refused(WrongKind, ("def", "f", "f", "number", ("use", "f", ONE), ONE), ("def", "f", "f", "number", F, F))

    def test_the_innermost_binder_counts(self):
        self.told("number", let("x", P, let("x", ONE, X)), let("x", P, let("x", ONE, ("sum", X, X))))
        self.told("piece", let("x", ONE, let("x", P, X)))
        self.told("number", let("f", ONE, defined("number", X, ("use", "f", ONE))),
                  defined("number", X, let("f", ("use", "f", ONE), F)),
                  let("f", ONE, ("sum", defined("number", X, ("use", "f", ONE)), F)))
        self.refused(WrongKind, defined("number", X, let("f", ONE, ("use", "f", ONE))),
                     let("f", ONE, defined("number", X, F)))

    def test_one_name_at_two_levels(self):
        self.told("piece", let("x", ONE, quoted(let("x", ONE, X))), quoted(let("x", ONE, ("hole", let("x", P, X)))),
                  let("x", ONE, quoted(let("x", ("hole", ("lift", X)), X))))
        self.refused(WrongLevel, let("x", ONE, quoted(let("x", X, X))),
                     quoted(let("x", ONE, ("hole", ("lift", X)))))

    def test_names_may_be_any_text_of_letters(self):
        for name in ("v", "num", "name", "let", "quote", "number", "piece", "abcdefgh", "a"):
            self.told("number", let(name, ONE, ("name", name)), ("def", name, name, "number", ("name", name),
                                                                ("use", name, ONE)))
            self.refused(NoName, ("name", name), ("use", name, ONE))


class LevelsTest(KindCase):
    def test_a_hole_stands_at_level_1(self):
        self.refused(WrongLevel, ("hole", P), ("sum", ONE, ("hole", P)), holed(("hole", P)), ("run", ("hole", P)),
                     ("lift", ("hole", P)), defined("piece", ("hole", X), ONE))
        self.told("piece", holed(holed(P)))

    def test_quote_lift_and_run_stand_at_level_0(self):
        for word, part in (("quote", ONE), ("lift", ONE), ("run", P)):
            self.refused(WrongLevel, quoted((word, part)), quoted(("sum", ONE, (word, part))),
                         quoted(let("x", (word, part), ONE)), quoted(("sum", ("hole", P), (word, part))),
                         holed(quoted((word, part))))
        self.told("piece", holed(P), holed(("lift", ONE)), quoted(("sum", ("hole", P), ("hole", ("lift", ONE)))))

    def test_run_has_no_quote_hole_or_function_round_it(self):
        run = ("run", P)
        self.refused(WrongLevel, quoted(run), holed(("lift", run)), holed(let("x", run, P)),
                     defined("number", run, ONE), defined("piece", ("run", X), ONE),
                     defined("number", let("y", ONE, ("sum", run, Y)), ONE),
                     defined("number", ("lift", run), ("use", "f", ONE)),
                     ("sum", ONE, defined("number", defined("number", X, run), ONE)))

    def test_run_may_stand_in_all_else(self):
        run = ("run", P)
        self.told("number", run, ("sum", run, run), ("when", run, run, run), let("x", run, run),
                  ("turns", 2, "x", run, run), defined("number", X, run), defined("number", X, ("use", "f", run)),
                  ("run", ("lift", run)), ("run", let("x", ("run", P), P)))
        self.told("piece", ("lift", run))

    def test_a_name_at_another_level_than_its_binder(self):
        self.refused(WrongLevel, let("x", ONE, quoted(X)), let("x", P, quoted(X)), quoted(let("x", ONE, ("hole", X))),
                     quoted(("turns", 2, "x", ONE, ("hole", X))), ("turns", 2, "x", P, quoted(X)),
                     defined("piece", quoted(X), ONE), quoted(defined("number", ("hole", X), ONE)))

    def test_a_function_at_another_level_than_its_binder(self):
        self.refused(WrongLevel, defined("number", X, quoted(("use", "f", ONE))),
                     quoted(defined("number", X, ("hole", ("use", "f", ONE)))),
                     defined("number", X, quoted(F)), quoted(defined("number", X, ("hole", F))))

    def test_a_name_at_its_own_level_again(self):
        self.told("piece", let("x", P, quoted(("hole", X))), quoted(let("x", ONE, ("hole", quoted(X)))),
                  let("x", ONE, quoted(("hole", ("lift", X)))),
                  defined("piece", X, quoted(("hole", ("use", "f", P)))),
                  quoted(defined("number", X, ("hole", quoted(("use", "f", ONE))))))


class OrderTest(KindCase):
    """Programs in which two things are wrong: the first is refused."""

    def both_ways(self, level, wrap, term):
        """Looks at a term of two, each of which is wrong in another way."""
        for one, first in WRONG[level]:
            for other, second in WRONG[level]:
                if first is not second:
                    self.refused(first, wrap(term(one, other)))

    def test_each_thing_that_is_wrong_alone(self):
        for term, refusal in WRONG[0]:
            self.refused(refusal, term, holed(term), ("lift", term), ("run", term), defined("number", term, ONE))
        for term, refusal in WRONG[1]:
            self.refused(refusal, quoted(term), holed(quoted(term)), quoted(let("x", term, ONE)))

    def test_parts_are_gone_through_from_the_left(self):
        for level, wrap in ((0, lambda term: term), (1, quoted), (0, holed)):
            for word in ("sum", "product", "less"):
                self.both_ways(level, wrap, lambda one, other: (word, one, other))
            self.both_ways(level, wrap, lambda one, other: ("when", one, other, ONE))
            self.both_ways(level, wrap, lambda one, other: ("when", one, ONE, other))
            self.both_ways(level, wrap, lambda one, other: ("when", ONE, one, other))
            self.both_ways(level, wrap, lambda one, other: let("x", one, other))
            self.both_ways(level, wrap, lambda one, other: ("turns", 0, "x", one, other))
            self.both_ways(level, wrap, lambda one, other: defined("number", one, other))

    def test_a_kind_is_looked_at_behind_all_within_and_ahead_of_what_follows(self):
        for term, refusal in WRONG[0]:
            if refusal is not WrongKind:
                self.refused(WrongKind, ("sum", P, term), ("less", P, term), ("when", P, term, ONE),
                             ("when", P, ONE, term), let("x", ("sum", ONE, P), term),
                             ("turns", 1, "x", ("run", ONE), term), defined("number", ("lift", P), term))
                self.refused(refusal, ("sum", ("lift", term), ONE), ("sum", ("when", ONE, P, ("lift", term)), ONE),
                             ("product", let("x", P, ("lift", term)), ONE), ("less", ("turns", 1, "x", P, term), ONE),
                             ("run", term), ("run", ("sum", ONE, term)), holed(("sum", ONE, term)),
                             ("lift", ("lift", term)))
        for term, refusal in WRONG[1]:
            self.refused(refusal, ("sum", quoted(term), ONE), ("lift", quoted(term)), ("when", quoted(term), ONE, ONE))

    def test_of_when_the_two_are_alike_is_looked_at_behind_b(self):
        for term, refusal in WRONG[0]:
            self.refused(refusal, ("when", ONE, ONE, ("lift", term)), ("when", ONE, P, ("sum", ONE, term)))
        self.refused(WrongKind, ("sum", ("when", ONE, ONE, P), X), ("sum", ("when", ONE, P, P), X))

    def test_of_turns_the_two_are_alike_is_looked_at_behind_b(self):
        for term, refusal in WRONG[0]:
            self.refused(refusal, ("turns", 1, "x", ONE, ("lift", term)), ("turns", 1, "x", P, ("sum", ONE, term)))
        self.refused(WrongKind, ("sum", ("turns", 0, "x", ONE, P), X))

    def test_outer_ones_come_ahead_of_their_parts(self):
        for term, _ in WRONG[0]:
            self.refused(WrongLevel, ("hole", term), holed(("hole", term)), quoted(("lift", term)),
                         quoted(("run", term)), defined("number", ("run", term), ONE), holed(("lift", ("run", term))))
        for term, _ in WRONG[1]:
            self.refused(WrongLevel, quoted(("quote", term)))
            self.refused(WrongKind, quoted(defined("piece", term, ONE)), quoted(defined("piece", ONE, term)))

    def test_a_name_that_means_nothing_comes_ahead_of_all(self):
        self.refused(NoName, quoted(("use", "f", ("lift", ONE))), ("use", "f", ("hole", P)),
                     ("use", "f", ("sum", P, P)))

    def test_a_level_comes_ahead_of_whether_it_is_a_function(self):
        self.refused(WrongLevel, let("x", ONE, quoted(("use", "x", ONE))), defined("number", X, quoted(F)),
                     quoted(let("x", ONE, ("hole", ("use", "x", ONE)))), quoted(defined("number", X, ("hole", F))))

    def test_the_f_of_a_use_comes_ahead_of_its_a(self):
        for term, refusal in WRONG[0]:
            self.refused(NoName, ("use", "nil", term))
            self.refused(WrongKind, let("x", ONE, ("use", "x", term)))
            self.refused(WrongLevel, quoted(defined("number", X, ("hole", ("use", "f", term)))))
            self.refused(refusal, defined("number", X, ("use", "f", term)),
                         defined("number", X, ("use", "f", ("lift", term))),
                         defined("piece", X, ("use", "f", ("sum", ONE, term))))
        for term, _ in WRONG[1]:
            self.refused(WrongLevel, defined("number", X, quoted(("use", "f", term))))
            self.refused(WrongKind, quoted(let("x", ONE, ("use", "x", term))))

    def test_what_is_not_reached_when_told_is_looked_at_all_the_same(self):
        for term, refusal in WRONG[0]:
            self.refused(refusal, ("when", ("num", 0), term, ONE), ("turns", 0, "x", ONE, term),
                         defined("number", term, ONE), let("x", ("lift", term), ONE))


class LikeTermsTest(KindCase):
    """The same term in places that are not alike, and in very many places."""

    def test_a_name_that_means_different_things(self):
        self.told("number", ("sum", let("x", ONE, X), let("x", P, ("run", X))))
        self.refused(WrongKind, ("sum", let("x", ONE, X), let("x", P, X)),
                     ("sum", let("x", ONE, X), defined("number", ONE, ("def", "x", "y", "number", ONE, X))))
        self.refused(NoName, ("sum", let("x", ONE, ("sum", X, ONE)), ("sum", X, ONE)))
        self.refused(WrongLevel, let("x", ONE, ("sum", X, ("run", quoted(X)))))

    def test_a_function_that_means_different_things(self):
        use = ("use", "f", ONE)
        self.told("number", ("sum", defined("number", X, use), ("run", defined("number", ("lift", X), use))))
        self.refused(WrongKind, ("sum", defined("number", X, use), defined("number", P, use)),
                     ("sum", defined("number", X, use), defined("piece", ONE, use)))

    def test_a_run_that_is_barred_further_right(self):
        run = ("sum", ("run", P), ONE)
        self.refused(WrongLevel, ("sum", run, defined("number", run, ONE)),
                     ("run", let("x", run, holed(("lift", run)))))
        self.told("number", ("sum", run, defined("number", ONE, run)))

    def test_a_term_that_stands_at_both_levels(self):
        term = let("x", ONE, ("sum", X, X))
        self.told("number", ("sum", term, ("run", quoted(term))))
        self.refused(WrongLevel, ("when", ONE, P, quoted(P)), ("sum", ("run", P), ("run", quoted(P))))

    def test_very_often(self):
        self.told("number", shared(19), let("x", ONE, shared(18, ("when", "sum"), X)),
                  defined("number", shared(17, ("less", "when"), X), ("use", "f", ONE)))
        self.told("piece", quoted(shared(18)), let("x", P, quoted(shared(16, ("when",), ("hole", X)))))
        often = shared(17)
        for wrong, refusal in WRONG[0]:
            self.refused(refusal, ("when", ONE, often, ("sum", often, wrong)), shared(17, ("when",), wrong))

    def test_twenty_deep(self):
        term, number = P, ONE
        for _ in range(9):
            term = holed(term)
            number = ("run", ("lift", number))
        self.told("piece", term)
        self.told("number", number)


class ManyProgramsTest(unittest.TestCase):
    def test_programs_that_are_right(self):
        for kind in ("number", "piece"):
            for term in some_programs.right_programs(kind, 500, 8, 20261120):
                with self.subTest(term=plain_terms.short(term)):
                    before = repr(term)
                    self.assertEqual(kind_of(term), kind)
                    self.assertEqual(kind_of(term), kind)
                    self.assertEqual(repr(term), before)

    def test_programs_in_which_something_was_changed(self):
        seen = {"number": 0, "piece": 0, "NoName": 0, "WrongLevel": 0, "WrongKind": 0}
        for term in some_programs.changed_programs(3000, 8, 20261121):
            with self.subTest(term=plain_terms.short(term)):
                answers = [asked(ask, term) for ask in (kind_of, plain_programs.kind)]
                self.assertEqual(answers[0], answers[1])
                seen[answers[0]] += 1
        for answer, many in seen.items():
            self.assertGreater(many, 100, answer)


def asked(ask, term):
    """What is told, or the name of the refusal."""
    try:
        return ask(term)
    except HallError as refusal:
        return type(refusal).__name__


if __name__ == "__main__":
    unittest.main()
