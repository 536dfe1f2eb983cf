"""Promises 4 and 6 to 11: what programs tell, the pieces that they make, and what plain_of tells of these."""

import sys
import unittest

from quotehall import telling
from quotehall.errors import HallError, NoName, TooGreat, WrongKind, WrongLevel
from quotehall.telling import made, plain_of, told
from quotehall.terms import bare, depth_of, loose_in, size_of
from tests import plain_programs, plain_terms, some_programs

ZERO = ("num", 0)
ONE = ("num", 1)
TWO = ("num", 2)
X = ("name", "x")
Y = ("name", "y")
P = ("name", "p")
PIECE = ("quote", ONE)
TOP = 1000002
HUGE = 10 ** 30 + 7
TIMES_TEN = ("sum", ("product", X, ("num", 10)), Y)


def let(name, a, b):
    return ("let", name, a, b)


def v(count):
    return ("name", "v%d" % count)


def names_from(count, name="x"):
    """A quote whose making gives one new name, and what it makes where that is the one of this count."""
    return ("quote", let(name, ONE, ("name", name))), let("v%d" % count, ONE, v(count))


def tree(leaves):
    """A sum of so many ones, of twice as many terms less one, and hardly deeper than need be."""
    if leaves == 1:
        return ONE
    return ("sum", tree(leaves // 2), tree(leaves - leaves // 2))


def deeper(steps, start=PIECE):
    """A program that makes a piece so many deeper than the one that start makes, by turns."""
    term = start
    while steps > 0:
        term = ("turns", min(9, steps), "p", term, ("quote", ("sum", ("hole", P), ONE)))
        steps -= 9
    return term


def many_times(turns, deep, term):
    """A number's term, gone through so many times over."""
    for _ in range(deep):
        term = ("turns", turns, "x", X, term)
    return let("x", ZERO, term)


def functions(deep, name="f", kind="number", last=lambda use: ("sum", ONE, use)):
    """A term in which f and x are in force, in which functions use functions, 2 ** deep of them one within another.

    Only two names are used, so that like terms are the same and the whole is made quickly.
    """
    terms = {at: last(("use", at, X)) for at in "fg"}
    for _ in range(deep):
        terms = {one: ("def", other, "x", kind, terms[one], terms[other]) for one, other in ("fg", "gf")}
    return terms[name]


class TellingCase(unittest.TestCase):
    def tells(self, term, number):
        with self.subTest(term=plain_terms.short(term)):
            self.assertEqual(told(term), number)
            self.assertIs(type(told(term)), int)

    def makes(self, term, piece):
        with self.subTest(term=plain_terms.short(term)):
            self.assertEqual(made(term), piece)
            self.assertEqual(made(term), piece)

    def refused(self, refusal, ask, *terms):
        for term in terms:
            with self.subTest(term=plain_terms.short(term)):
                with self.assertRaises(HallError) as caught:
                    ask(term)
                self.assertIs(type(caught.exception), refusal)


class ValuesTest(TellingCase):
    """Plain terms, as programs and of level 1."""

    def both(self, number, *terms):
        for term in terms:
            self.tells(term, number)
            self.assertEqual(plain_of(term), number)
            self.assertIs(type(plain_of(term)), int)
            self.tells(("run", ("quote", term)), number)

    def test_the_interface_stands_in_its_file(self):
        for function in (told, made, plain_of):
            self.assertEqual(function.__module__, telling.__name__)

    def test_nums(self):
        self.both(0, ZERO, ("num", 1000003), ("num", -1000003), ("num", 1000003 * 10 ** 20))
        self.both(1, ONE, ("num", 1000004), ("num", -TOP))
        self.both(TOP, ("num", TOP), ("num", -1), ("num", -1000004))
        self.both(HUGE % 1000003, ("num", HUGE))
        self.both(-HUGE % 1000003, ("num", -HUGE))

    def test_sums_and_products(self):
        self.both(3, ("sum", ONE, TWO))
        self.both(0, ("sum", ("num", TOP), ONE), ("sum", ("num", -2), TWO), ("product", ZERO, ("num", HUGE)))
        self.both(1, ("sum", ("num", TOP), TWO), ("product", ("num", -1), ("num", TOP)))
        self.both(1000001, ("sum", ("num", TOP), ("num", TOP)))
        self.both(6, ("product", TWO, ("num", 3)))
        self.both((HUGE * HUGE) % 1000003, ("product", ("num", HUGE), ("num", HUGE)))

    def test_less_is_told_of_what_is_reckoned(self):
        self.both(1, ("less", ONE, TWO), ("less", ONE, ("num", -1)), ("less", ("num", 1000003), ONE),
                  ("less", ("num", HUGE * 1000003), ONE), ("less", ("sum", ("num", TOP), ONE), ONE))
        self.both(0, ("less", TWO, ONE), ("less", ONE, ONE), ("less", ("num", -1), ZERO),
                  ("less", ONE, ("num", 1000004)), ("less", ZERO, ("num", 1000003)),
                  ("less", ("num", -1), ("num", TOP)))

    def test_when(self):
        self.both(2, ("when", ONE, TWO, ZERO), ("when", ("num", -1), TWO, ZERO), ("when", ("num", TOP), TWO, ZERO),
                  ("when", ZERO, ONE, TWO), ("when", ("num", 1000003), ONE, TWO),
                  ("when", ("less", TWO, ONE), ONE, TWO))

    def test_let(self):
        self.both(2, let("x", ONE, ("sum", X, X)), let("x", ONE, let("x", ("sum", X, ONE), X)))
        self.both(12, let("x", ONE, let("y", TWO, TIMES_TEN)))
        self.both(21, let("y", ONE, let("x", TWO, TIMES_TEN)))
        self.both(11, let("x", ONE, ("sum", let("x", ("num", 10), X), X)))

    def test_turns(self):
        double = ("sum", X, X)
        for many in range(10):
            self.both(2 ** many, ("turns", many, "x", ONE, double))
        self.both(7, ("turns", 0, "x", ("num", 7), ZERO))
        self.both(0, ("turns", 1, "x", ("num", 7), ZERO))
        self.both(5, ("turns", 3, "x", TWO, ("sum", X, ONE)))
        self.both(1 + 81, ("turns", 9, "x", ONE, ("turns", 9, "x", X, ("sum", X, ONE))))
        self.both(6, let("x", TWO, ("turns", 2, "x", X, ("sum", X, TWO))))
        self.both(40, let("y", ("num", 10), ("turns", 3, "x", Y, ("sum", X, Y))))

    def test_def_and_use(self):
        def square(b):
            return ("def", "f", "x", "number", ("product", X, X), b)

        self.both(9, square(("use", "f", ("num", 3))))
        self.both(81, square(("use", "f", ("use", "f", ("num", 3)))))
        self.both(5, square(("num", 5)))
        self.both(7, square(let("f", ("num", 7), ("name", "f"))))
        self.both(16, square(let("x", ("num", 4), ("use", "f", X))))

    def test_a_function_means_what_stands_round_its_def(self):
        use = ("def", "f", "y", "number", TIMES_TEN, let("x", ("num", 5), ("use", "f", ("num", 7))))
        self.both(17, let("x", ONE, use))
        self.both(27, let("x", TWO, use))
        inner = ("def", "f", "x", "number", ("sum", X, ONE), ("def", "f", "x", "number", ("use", "f", ("use", "f", X)),
                                                              ("use", "f", ZERO)))
        self.both(2, inner)
        self.both(3, ("def", "f", "f", "number", ("sum", ("name", "f"), ONE), ("use", "f", TWO)))
        self.both(3, let("f", ONE, ("def", "f", "x", "number", ("sum", X, ("name", "f")), ("use", "f", TWO))))

    def test_names_of_letters_and_figures(self):
        self.assertEqual(plain_of(let("v1", ONE, let("v10", TWO, ("sum", v(1), v(10))))), 3)
        self.assertEqual(plain_of(let("x9y", ONE, ("turns", 2, "X", ("name", "x9y"), ("sum", ("name", "X"), ONE)))), 3)
        self.assertEqual(plain_of(("def", "v1", "v2", "number", v(2), ("use", "v1", ONE))), 1)
        self.assertEqual(plain_of(let("0", ("num", 5), ("name", "0"))), 5)
        self.assertEqual(plain_of(let("averylongname77", ("num", 5), ("name", "averylongname77"))), 5)


class PiecesTest(TellingCase):
    """Pieces with their very names, made by hand from point 8."""

    def test_nums_and_words_are_taken_as_they_are(self):
        for term in (ONE, ("num", -1), ("num", HUGE), ("sum", ONE, TWO), ("product", ("num", -5), TWO),
                     ("less", ONE, ZERO), ("when", ONE, ("num", 1000003), ("sum", ONE, TWO))):
            self.makes(("quote", term), term)

    def test_a_lifts_num_is_reckoned(self):
        self.makes(("lift", ("num", -1)), ("num", TOP))
        self.makes(("lift", ("num", 1000003)), ZERO)
        self.makes(("lift", ("sum", TWO, TWO)), ("num", 4))
        self.makes(("quote", ("sum", ("num", -1), ("hole", ("lift", ("num", -1))))), ("sum", ("num", -1), ("num", TOP)))

    def test_binders_get_new_names(self):
        self.makes(("quote", let("x", ONE, X)), let("v1", ONE, v(1)))
        self.makes(("quote", ("turns", 0, "x", ONE, X)), ("turns", 0, "v1", ONE, v(1)))
        self.makes(("quote", ("turns", 9, "x", ONE, ("sum", X, X))), ("turns", 9, "v1", ONE, ("sum", v(1), v(1))))
        self.makes(("quote", ("def", "f", "x", "number", X, ("use", "f", ONE))),
                   ("def", "v1", "v2", "number", v(2), ("use", "v1", ONE)))
        self.makes(("quote", ("def", "v", "v", "number", ("name", "v"), ("use", "v", ONE))),
                   ("def", "v1", "v2", "number", v(2), ("use", "v1", ONE)))

    def test_names_are_given_ahead_of_the_parts(self):
        inner = let("y", ONE, Y)
        self.makes(("quote", let("x", inner, let("z", X, X))), let("v1", let("v2", ONE, v(2)), let("v3", v(1), v(1))))
        self.makes(("quote", ("turns", 2, "x", inner, X)), ("turns", 2, "v1", let("v2", ONE, v(2)), v(1)))
        self.makes(("quote", ("def", "f", "x", "number", let("x", X, X), let("x", ONE, ("use", "f", X)))),
                   ("def", "v1", "v2", "number", let("v3", v(2), v(3)), let("v4", ONE, ("use", "v1", v(4)))))

    def test_names_are_given_from_the_left(self):
        quote, _ = names_from(1)
        inner = quote[1]
        self.makes(("quote", ("sum", inner, inner)), ("sum", let("v1", ONE, v(1)), let("v2", ONE, v(2))))
        self.makes(("quote", ("when", inner, inner, inner)),
                   ("when", let("v1", ONE, v(1)), let("v2", ONE, v(2)), let("v3", ONE, v(3))))

    def test_more_than_nine_names(self):
        piece = made(("quote", tree_of_lets(12)))
        self.assertEqual(binders(piece), ["v%d" % count for count in range(1, 13)])

    def test_a_let_and_a_turns_bind_in_b_and_not_in_a(self):
        self.makes(("quote", let("x", ONE, let("x", X, X))), let("v1", ONE, let("v2", v(1), v(2))))
        self.makes(("quote", let("x", ONE, ("turns", 3, "x", X, X))), let("v1", ONE, ("turns", 3, "v2", v(1), v(2))))

    def test_holes_are_filled_as_they_are_come_to(self):
        quote, _ = names_from(1)
        hole = ("hole", quote)
        self.makes(("quote", let("x", hole, ("sum", let("y", ONE, Y), hole))),
                   let("v1", let("v2", ONE, v(2)), ("sum", let("v3", ONE, v(3)), let("v4", ONE, v(4)))))
        self.makes(("quote", ("sum", ("hole", ("quote", ("sum", hole, quote[1]))), quote[1])),
                   ("sum", ("sum", let("v1", ONE, v(1)), let("v2", ONE, v(2))), let("v3", ONE, v(3))))

    def test_a_quote_gone_through_twice_has_unlike_names(self):
        program = ("turns", 2, "p", PIECE, ("quote", let("x", ("hole", P), ("sum", X, ("hole", P)))))
        first = let("v1", ONE, ("sum", v(1), ONE))
        self.makes(program, let("v2", first, ("sum", v(2), first)))
        program = ("def", "f", "x", "number", names_from(1)[0],
                   ("quote", ("sum", ("hole", ("use", "f", ONE)), ("hole", ("use", "f", ONE)))))
        self.makes(program, ("sum", let("v1", ONE, v(1)), let("v2", ONE, v(2))))

    def test_a_piece_filled_in_twice_is_not_named_anew(self):
        quote, piece = names_from(1)
        self.makes(let("p", quote, ("quote", ("sum", ("hole", P), ("hole", P)))), ("sum", piece, piece))
        self.makes(let("p", quote, ("quote", let("y", ("hole", P), ("sum", Y, ("hole", P))))),
                   let("v2", piece, ("sum", v(2), piece)))

    def test_a_name_kept_and_filled_in_behind_another_binder_of_the_same_name(self):
        keep = ("quote", let("x", TWO, ("sum", ("hole", P), X)))
        self.makes(("quote", let("x", ONE, ("hole", let("p", ("quote", X), keep)))),
                   let("v1", ONE, let("v2", TWO, ("sum", v(1), v(2)))))
        keep = ("quote", ("turns", 2, "x", ("hole", P), ("product", ("hole", P), X)))
        self.makes(("quote", ("turns", 3, "x", ONE, ("hole", let("p", ("quote", X), keep)))),
                   ("turns", 3, "v1", ONE, ("turns", 2, "v2", v(1), ("product", v(1), v(2)))))
        keep = ("quote", ("def", "f", "x", "number", ("sum", ("hole", P), X), ("use", "f", ("hole", P))))
        self.makes(("quote", ("def", "f", "x", "number", ("hole", let("p", ("quote", X), keep)), ("use", "f", ONE))),
                   ("def", "v1", "v2", "number",
                    ("def", "v3", "v4", "number", ("sum", v(2), v(4)), ("use", "v3", v(2))), ("use", "v1", ONE)))

    def test_a_use_kept_and_filled_in_behind_another_function_of_the_same_name(self):
        keep = ("quote", ("def", "f", "x", "number", TWO, ("sum", ("hole", P), ("use", "f", ONE))))
        self.makes(("quote", ("def", "f", "x", "number", X, ("hole", let("p", ("quote", ("use", "f", ONE)), keep)))),
                   ("def", "v1", "v2", "number", v(2),
                    ("def", "v3", "v4", "number", TWO, ("sum", ("use", "v1", ONE), ("use", "v3", ONE)))))
        keep = ("quote", let("f", TWO, ("sum", ("hole", P), ("name", "f"))))
        self.makes(("quote", ("def", "f", "x", "number", X, ("hole", let("p", ("quote", ("use", "f", ONE)), keep)))),
                   ("def", "v1", "v2", "number", v(2), let("v3", TWO, ("sum", ("use", "v1", ONE), v(3)))))

    def test_names_of_binders_within_one_another(self):
        keep = ("quote", let("x", ("sum", ("hole", P), ("hole", ("name", "q"))), ("sum", ("hole", ("name", "q")), X)))
        inner = ("quote", let("x", TWO, ("hole", let("q", ("quote", ("sum", X, ("hole", P))), keep))))
        self.makes(("quote", let("x", ONE, ("hole", let("p", ("quote", X), inner)))),
                   let("v1", ONE, let("v2", TWO, let("v3", ("sum", v(1), ("sum", v(2), v(1))),
                                                     ("sum", ("sum", v(2), v(1)), v(3))))))

    def test_a_kept_name_gathered_by_turns(self):
        step = ("quote", let("x", TWO, ("product", X, ("hole", P))))
        self.makes(("quote", let("x", ONE, ("hole", ("turns", 2, "p", ("quote", X), step)))),
                   let("v1", ONE, let("v3", TWO, ("product", v(3), let("v2", TWO, ("product", v(2), v(1)))))))

    def test_a_function_of_pieces_that_puts_binders_round_them(self):
        wrap = ("quote", let("y", TWO, ("sum", ("hole", X), Y)))
        program = ("def", "wrap", "x", "piece", wrap,
                   ("quote", let("y", ONE, ("hole", ("use", "wrap", ("use", "wrap", ("quote", Y)))))))
        self.makes(program, let("v1", ONE, let("v3", TWO, ("sum", let("v2", TWO, ("sum", v(1), v(2))), v(3)))))

    def test_a_function_in_a_hole_means_the_binders_round_its_def(self):
        inner = ("quote", let("x", TWO, ("hole", ("use", "f", ("quote", X)))))
        function = ("def", "f", "p", "piece", ("quote", ("product", X, ("hole", P))), inner)
        self.makes(("quote", let("x", ONE, ("hole", function))),
                   let("v1", ONE, let("v2", TWO, ("product", v(1), v(2)))))

    def test_a_when_looks_at_one_alone_and_names_no_other(self):
        quote, piece = names_from(1)
        self.makes(let("p", ("when", ONE, PIECE, quote), quote), piece)
        self.makes(let("p", ("when", ZERO, quote, PIECE), quote), piece)
        self.makes(("when", ("run", quote), quote, PIECE), names_from(2)[1])
        self.makes(let("p", ("when", ONE, quote, PIECE), quote), names_from(2)[1])

    def test_what_is_not_gone_through_gets_no_name(self):
        quote, piece = names_from(1)
        self.makes(let("p", ("turns", 0, "p", PIECE, quote), quote), piece)
        self.makes(("def", "f", "x", "number", quote, quote), piece)
        self.makes(("def", "f", "x", "number", quote, ("use", "f", ONE)), piece)

    def test_names_of_a_piece_that_is_run_or_left_alone_are_not_given_again(self):
        quote, _ = names_from(1)
        self.makes(let("n", ("run", quote), quote), names_from(2)[1])
        self.makes(let("p", quote, quote), names_from(2)[1])
        self.makes(("when", ("run", let("p", quote, quote)), quote, PIECE), names_from(3)[1])
        self.makes(("turns", 9, "p", PIECE, quote), names_from(9)[1])
        self.makes(("def", "f", "p", "piece", quote, ("use", "f", ("use", "f", quote))), names_from(3)[1])

    def test_an_a_of_a_use_comes_ahead_of_the_function(self):
        quote, _ = names_from(1)
        program = ("def", "f", "p", "piece", ("quote", let("y", ("hole", P), Y)), ("use", "f", quote))
        self.makes(program, let("v2", let("v1", ONE, v(1)), v(2)))

    def test_a_run_gives_no_names(self):
        quote, piece = names_from(1)
        self.makes(let("n", ("sum", ("run", ("lift", ONE)), ("run", PIECE)), quote), piece)
        self.makes(let("p", quote, let("n", ("sum", ("run", P), ("run", P)), P)), piece)

    def test_a_piece_with_values_from_outside(self):
        self.makes(let("x", ("num", -3), ("quote", ("sum", ("num", -3), ("hole", ("lift", X))))),
                   ("sum", ("num", -3), ("num", 1000000)))

    def test_a_power_by_hand(self):
        power = ("def", "power", "b", "piece",
                 ("turns", 3, "p", PIECE, ("quote", ("product", ("hole", ("name", "b")), ("hole", P)))),
                 ("quote", ("def", "cube", "n", "number", ("hole", ("use", "power", ("quote", ("name", "n")))),
                            ("use", "cube", ("num", 5)))))
        cube = ("product", v(2), ("product", v(2), ("product", v(2), ONE)))
        self.makes(power, ("def", "v1", "v2", "number", cube, ("use", "v1", ("num", 5))))
        self.tells(("run", power), 125)


def tree_of_lets(many):
    """So many lets, one beside the other."""
    term = let("x", ONE, X)
    for _ in range(many - 1):
        term = ("sum", let("x", ONE, X), term)
    return term


def binders(term):
    """The names that are bound in a term, from the left, as often as they are."""
    names = {"let": term[1:2], "turns": term[2:3], "def": term[1:3]}.get(term[0], ())
    found = list(names)
    for part in plain_terms.parts(term):
        found.extend(binders(part))
    return found


class TellsTest(TellingCase):
    """Programs with pieces that tell numbers."""

    def test_runs(self):
        self.tells(("run", PIECE), 1)
        self.tells(("run", ("lift", ("num", -1))), TOP)
        self.tells(("run", ("quote", ("num", -1))), TOP)
        self.tells(("sum", ("run", PIECE), ("run", ("lift", TWO))), 3)
        self.tells(let("p", ("quote", let("x", TWO, ("sum", X, X))), ("sum", ("run", P), ("run", P))), 8)
        self.tells(("run", ("quote", ("hole", ("quote", ("hole", ("lift", TWO)))))), 2)
        self.tells(("run", ("lift", ("run", ("lift", ("run", PIECE))))), 1)

    def test_a_run_ahead_of_a_run(self):
        self.tells(("run", ("quote", ("sum", ONE, ("hole", ("lift", TWO))))), 3)
        second = ("run", ("quote", ("sum", ONE, ("hole", ("lift", ("name", "n"))))))
        self.tells(let("n", ("run", ("quote", ("sum", ONE, TWO))), second), 4)

    def test_names_of_the_program_do_not_reach_a_piece_that_is_run(self):
        self.tells(let("x", ("num", 5), ("run", ("quote", let("x", TWO, X)))), 2)
        self.tells(let("x", ("num", 5), ("sum", ("run", ("quote", let("x", TWO, X))), X)), 7)

    def test_kept_names_are_not_caught(self):
        keep = let("p", ("quote", X), ("quote", let("x", TWO, ("sum", ("product", ("hole", P), ("num", 10)), X))))
        self.tells(("run", ("quote", let("x", ONE, ("hole", keep)))), 12)
        keep = let("p", ("quote", X), ("quote", ("turns", 4, "x", ZERO, ("sum", X, ("hole", P)))))
        self.tells(("run", ("quote", let("x", ("num", 7), ("hole", keep)))), 28)

    def test_pieces_that_tell_further_pieces(self):
        self.tells(("run", ("turns", 9, "p", PIECE, ("quote", ("sum", ("hole", P), ("hole", P))))), 512)


class RefusedTest(TellingCase):
    """What comes first: what is wrong in the program, then the wrong kind of it, then what is too great."""

    GREAT = ("quote", tree(1001))

    def test_what_is_wrong_is_refused_by_told_and_made(self):
        for ask in (told, made):
            self.refused(NoName, ask, X, ("use", "f", ONE), ("quote", X), ("lift", X), let("x", ONE, Y))
            self.refused(WrongLevel, ask, ("hole", PIECE), ("quote", PIECE), ("quote", ("run", PIECE)),
                         let("x", ONE, ("quote", X)), ("def", "f", "x", "number", ("run", PIECE), ONE))
            self.refused(WrongKind, ask, ("sum", PIECE, ONE), ("run", ONE), ("quote", ("hole", ONE)), ("lift", PIECE),
                         ("when", ONE, ONE, PIECE), ("def", "f", "x", "number", X, ("name", "f")))

    def test_told_of_a_piece_and_made_of_a_number(self):
        self.refused(WrongKind, told, PIECE, ("lift", ONE), let("x", ONE, PIECE), ("when", ONE, PIECE, PIECE))
        self.refused(WrongKind, made, ONE, ("run", PIECE), let("x", PIECE, ONE), ("sum", ONE, ONE))

    def test_what_is_wrong_comes_ahead_of_the_kind_of_the_program(self):
        self.refused(NoName, told, ("quote", X), ("when", ONE, PIECE, ("lift", X)))
        self.refused(WrongLevel, told, ("quote", PIECE), ("quote", ("run", PIECE)))
        self.refused(NoName, made, ("sum", ONE, X), ("run", ("quote", X)))
        self.refused(WrongLevel, made, ("sum", ONE, ("hole", PIECE)), ("run", ("quote", PIECE)))

    def test_too_great_comes_behind_all_else(self):
        great = self.GREAT
        self.refused(WrongKind, told, great, deeper(30), let("p", great, PIECE))
        self.refused(WrongKind, made, ("run", great), let("p", great, ONE), ("run", deeper(30)))
        self.refused(NoName, told, ("sum", ("run", great), X), let("p", great, X))
        self.refused(NoName, made, let("p", great, ("quote", X)), let("p", great, ("lift", X)))
        self.refused(WrongLevel, told, ("sum", ("run", great), ("hole", great)))
        self.refused(WrongKind, told, ("sum", ("run", great), great), ("sum", great, ("run", great)))

    def test_too_great_run_made_and_left_alone(self):
        for great in (self.GREAT, deeper(30)):
            self.refused(TooGreat, made, great, let("p", great, PIECE), ("when", ONE, great, PIECE),
                         ("turns", 1, "x", PIECE, great), let("p", great, P))
            self.refused(TooGreat, told, ("run", great), let("p", great, ONE), ("when", ("run", great), ONE, ONE),
                         ("def", "f", "x", "piece", ONE, ("use", "f", great)),
                         ("def", "f", "x", "number", great, ("run", ("use", "f", ONE))))

    def test_what_is_not_gone_through_is_not_made(self):
        for great in (self.GREAT, deeper(30)):
            self.tells(("when", ZERO, ("run", great), TWO), 2)
            self.tells(("when", ONE, TWO, ("run", great)), 2)
            self.tells(("turns", 0, "x", TWO, ("run", great)), 2)
            self.tells(("def", "f", "x", "number", great, TWO), 2)
            self.makes(("when", ONE, PIECE, great), ONE)
            self.makes(("turns", 0, "x", PIECE, great), ONE)

    def test_what_is_made_for_a_run_only(self):
        self.tells(("sum", ("run", ("quote", tree(1000))), ("run", ("quote", tree(1000)))), 2000)
        self.tells(("run", deeper(29)), 30)


class GreatTest(TellingCase):
    """Pieces of 2000 and of 2001 terms, thirty deep and thirty-one deep."""

    def of_size(self, term, size):
        self.assertEqual(size_of(made(term)), size)
        self.assertEqual(plain_of(made(term)), told(("run", term)))
        told(let("p", term, ONE))

    def too_great(self, term):
        self.refused(TooGreat, made, term)
        self.refused(TooGreat, told, ("run", term), let("p", term, ONE))

    def test_written_out(self):
        self.of_size(("quote", tree(1000)), 1999)
        self.of_size(("quote", ("when", ONE, ONE, tree(999))), 2000)
        self.assertEqual(size_of(tree(1001)), 2001)
        self.too_great(("quote", tree(1001)))

    def test_with_what_fills_the_holes_each_time_that_it_stands_there(self):
        hole = ("hole", P)

        def filled(leaves, term):
            return let("p", ("quote", tree(leaves)), ("quote", term))

        self.of_size(filled(500, ("sum", hole, hole)), 1999)
        self.of_size(filled(333, ("when", hole, hole, ("sum", hole, ONE))), 1998)
        self.of_size(filled(333, ("when", hole, hole, ("sum", hole, ("sum", ONE, ONE)))), 2000)
        self.too_great(filled(333, ("when", hole, hole, ("sum", hole, ("when", ONE, ONE, ONE)))))
        self.too_great(filled(500, ("sum", hole, ("sum", hole, ONE))))
        self.too_great(filled(1000, ("sum", hole, ONE)))
        self.of_size(filled(1000, hole), 1999)
        self.too_great(("turns", 9, "p", ("quote", tree(2)), ("quote", ("sum", hole, hole))))
        self.of_size(("turns", 8, "p", ("quote", tree(2)), ("quote", ("sum", hole, hole))), 1023)

    def test_binders_count_one_each(self):
        self.of_size(("quote", let("x", tree(500), tree(500))), 1999)
        self.of_size(("quote", ("def", "f", "x", "number", tree(500), ("use", "f", tree(500)))), 2000)
        great = ("turns", 0, "x", tree(500), ("sum", ONE, tree(500)))
        self.assertEqual(size_of(great), 2001)
        self.too_great(("quote", great))

    def test_depth_by_turns(self):
        piece = made(deeper(29))
        self.assertEqual(depth_of(piece), 30)
        self.assertEqual(size_of(piece), 59)
        self.assertEqual(plain_of(piece), 30)
        self.too_great(deeper(30))
        self.too_great(deeper(45))

    def test_depth_of_each_word(self):
        hole = ("hole", P)
        for term in (("sum", ONE, hole), ("product", hole, ONE), ("less", ONE, hole), ("when", hole, ONE, ONE),
                     ("when", ONE, hole, ONE), ("when", ONE, ONE, hole), let("x", hole, ONE), let("x", ONE, hole),
                     ("turns", 1, "x", hole, ONE), ("turns", 1, "x", ONE, hole),
                     ("def", "f", "x", "number", hole, ONE), ("def", "f", "x", "number", ONE, hole)):
            with self.subTest(term=plain_terms.short(term)):
                self.assertEqual(depth_of(made(let("p", deeper(28), ("quote", term)))), 30)
                self.too_great(let("p", deeper(29), ("quote", term)))
        used = ("def", "f", "x", "number", ONE, ("use", "f", hole))
        self.assertEqual(depth_of(made(let("p", deeper(27), ("quote", used)))), 30)
        self.too_great(let("p", deeper(28), ("quote", used)))

    def test_a_hole_alone_is_no_deeper(self):
        self.assertEqual(depth_of(made(let("p", deeper(29), ("quote", ("hole", P))))), 30)

    def test_a_quote_in_a_hole_is_too_great_by_itself(self):
        self.too_great(("quote", ("hole", ("quote", tree(1001)))))
        self.too_great(("quote", ("hole", let("p", ("quote", tree(1001)), PIECE))))
        self.too_great(("quote", ("sum", ONE, ("hole", let("p", deeper(30), PIECE)))))


class FarDownTest(TellingCase):
    """Functions that use functions lead down through many more terms than a program is deep."""

    def few_calls(self, ask, term):
        """What is told where Python's own calls go few hundreds further down than here."""
        here, limit = len(frames()), sys.getrecursionlimit()
        sys.setrecursionlimit(here + 250)
        try:
            return ask(term)
        finally:
            sys.setrecursionlimit(limit)

    def test_functions_that_use_functions(self):
        program = ("def", "f", "x", "number", X, let("x", ZERO, functions(14)))
        self.assertLessEqual(depth_of(program), 20)
        self.assertEqual(self.few_calls(told, program), 2 ** 14)
        self.assertEqual(self.few_calls(plain_of, program), 2 ** 14)

    def test_functions_that_use_functions_of_pieces(self):
        program = ("def", "f", "x", "piece", ("quote", ("sum", ("hole", X), ONE)),
                   let("x", PIECE, functions(12, "f", "piece", lambda use: ("when", ONE, use, X))))
        self.assertEqual(self.few_calls(made, program), ("sum", ONE, ONE))
        self.assertEqual(self.few_calls(told, ("run", program)), 2)

    def test_quotes_within_functions_within_quotes(self):
        body = functions(8, "f", "piece", lambda use: ("quote", ("hole", ("quote", ("hole", use)))))
        program = ("def", "f", "x", "piece", X, let("x", PIECE, body))
        self.assertEqual(self.few_calls(made, program), ONE)

    def test_a_piece_of_functions_that_use_functions(self):
        body = functions(8)
        piece = ("quote", ("def", "f", "x", "number", X, let("x", ZERO, body)))
        self.assertLessEqual(size_of(made(piece)), 2000)
        self.assertEqual(self.few_calls(told, ("run", piece)), 2 ** 8)
        self.assertEqual(self.few_calls(plain_of, self.few_calls(made, piece)), 2 ** 8)

    def test_a_piece_thirty_deep(self):
        call = ("use", "f", ("hole", P))
        piece = ("quote", ("def", "f", "x", "number", ("sum", X, ONE), ("hole", ("turns", 9, "p", ("turns", 9, "p", (
            "turns", 9, "p", PIECE, ("quote", call)), ("quote", call)), ("quote", call)))))
        self.assertEqual(depth_of(made(piece)), 29)
        self.assertEqual(self.few_calls(told, ("run", piece)), 28)

    def test_hundreds_of_thousands_of_terms(self):
        program = many_times(9, 5, ("sum", X, ONE))
        self.assertEqual(told(program), 9 ** 5)
        self.assertEqual(plain_of(program), 9 ** 5)
        self.assertEqual(told(("run", ("quote", program))), 9 ** 5)

    def test_terms_that_stand_there_very_often_and_are_not_gone_through(self):
        great = ONE
        for _ in range(15):
            great = ("when", great, great, great)
        self.tells(("when", ZERO, great, TWO), 2)
        self.tells(("def", "f", "x", "number", ("sum", great, X), TWO), 2)
        self.makes(("when", ONE, PIECE, ("quote", great)), ONE)


def frames():
    """The calls that are under way."""
    found, frame = [], sys._getframe()
    while frame is not None:
        found.append(frame)
        frame = frame.f_back
    return found


class AskedAgainTest(TellingCase):
    """What is handed in, what is told, and asking again."""

    def test_each_asking_begins_with_the_first_name(self):
        quote, piece = names_from(1)
        for ask, before in ((made, quote), (told, ("run", quote)), (told, let("p", quote, ONE)),
                            (plain_of, let("v7", ONE, v(7)))):
            ask(before)
            self.makes(quote, piece)

    def test_each_asking_begins_with_the_first_name_behind_a_refusal(self):
        quote, piece = names_from(1)
        for refusal, ask, before in (
                (TooGreat, made, ("quote", ("sum", quote[1], tree(1001)))),
                (TooGreat, told, let("p", quote, ("run", ("quote", tree(1001))))),
                (WrongKind, told, quote), (WrongKind, made, ("run", quote)),
                (NoName, made, let("p", quote, ("lift", X))), (WrongLevel, made, let("p", quote, ("quote", P)))):
            self.refused(refusal, ask, before)
            self.makes(quote, piece)

    def test_what_is_handed_in_is_unchanged(self):
        for term in (names_from(1)[0], let("p", names_from(1)[0], ("quote", ("sum", ("hole", P), ("num", -1))))):
            before = repr(term)
            made(term)
            told(("run", term))
            self.assertEqual(repr(term), before)

    def test_what_was_made_stays_as_it_is(self):
        quote, piece = names_from(1)
        first = made(quote)
        before = repr(first)
        plain_of(first)
        made(("quote", ("sum", quote[1], quote[1])))
        self.assertEqual(repr(first), before)
        self.assertEqual(first, piece)


LEVEL_1 = ("num", "name", "sum", "product", "less", "when", "let", "turns", "def", "use")


class ManyProgramsTest(unittest.TestCase):
    """Many programs that are made here: told and made beside a plainer way, and beside what is taken out."""

    def pieces_are_sound(self, piece):
        self.assertEqual(loose_in(piece), [])
        for name in binders(piece):
            self.assertRegex(name, "^v[1-9][0-9]*$")
        stack = [piece]
        while stack:
            term = stack.pop()
            self.assertIn(term[0], LEVEL_1)
            self.assertTrue(term[0] != "def" or term[3] == "number")
            stack.extend(plain_terms.parts(term))
        self.assertLessEqual(size_of(piece), 2000)
        self.assertLessEqual(depth_of(piece), 30)

    def test_numbers(self):
        for term in some_programs.right_programs("number", 1500, 8, 1):
            with self.subTest(term=plain_terms.short(term)):
                before = repr(term)
                number = asked(told, term)
                self.assertEqual(number, asked(plain_programs.told, term))
                if number != "TooGreat":
                    self.assertEqual(number, plain_of(bare(term)))
                    self.assertIn(number, range(1000003))
                self.assertEqual(asked(told, term), number)
                self.assertEqual(asked(made, term), "WrongKind")
                self.assertEqual(repr(term), before)

    def test_pieces(self):
        many_named = 0
        for term in some_programs.right_programs("piece", 1500, 8, 2):
            with self.subTest(term=plain_terms.short(term)):
                before = repr(term)
                piece = asked(made, term)
                self.assertEqual(piece, asked(plain_programs.made, term))
                if piece != "TooGreat":
                    self.pieces_are_sound(piece)
                    self.assertEqual(plain_of(piece), plain_of(bare(term)))
                    self.assertEqual(told(("run", term)), plain_of(piece))
                    many_named += len(binders(piece)) > 2
                self.assertEqual(asked(made, term), piece)
                self.assertEqual(asked(told, term), "WrongKind")
                self.assertEqual(repr(term), before)
        self.assertGreater(many_named, 300)

    def test_a_piece_whose_holes_are_filled_in_more_than_once(self):
        for term in some_programs.right_programs("piece", 400, 7, 3):
            hole = ("hole", ("name", "again"))
            twice = let("again", term, ("quote", let("x", hole, ("sum", ("product", X, ("num", 10)), hole))))
            with self.subTest(term=plain_terms.short(term)):
                piece = asked(made, twice)
                self.assertEqual(piece, asked(plain_programs.made, twice))
                if piece != "TooGreat":
                    self.assertEqual(plain_of(piece), plain_of(bare(twice)))
                    self.assertEqual(plain_of(piece), plain_of(bare(term)) * 11 % 1000003)

    def test_programs_in_which_something_was_changed(self):
        for term in some_programs.changed_programs(1500, 7, 4):
            with self.subTest(term=plain_terms.short(term)):
                self.assertEqual(asked(told, term), asked(plain_programs.told, term))
                self.assertEqual(asked(made, term), asked(plain_programs.made, term))


def asked(ask, term):
    """What is told, or the name of the refusal."""
    try:
        return ask(term)
    except HallError as refusal:
        return type(refusal).__name__


if __name__ == "__main__":
    unittest.main()
