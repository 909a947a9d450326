import unittest
from fractions import Fraction
from math import gcd

from piecebooks.books import even_book, first_book, inner_of
from piecebooks.errors import NoBook, NoSource
from piecebooks.means import bits_for, gain, greatest_piece, least_inner, mean
from piecebooks.sources import added, share
from tests.examples import BOOKS, NO_BOOKS, NO_PIECES, NO_SOURCES, SOURCES
from tests.things import (
    Refusals, as_tuple, comb, drawn_books, drawn_sources, plain_inner, plain_mean, plain_share, strange_things,
)

OF_SOURCE_AND_BOOK = [mean, gain, least_inner, greatest_piece]


def pairs():
    """Sources, each with books of its letters."""
    written = [(source, book) for source in SOURCES for many, book in BOOKS if many == len(source)]
    drawn = [(source, book) for source in drawn_sources(30) for book in drawn_books(len(source), 12)]
    return written + drawn


class Mean(unittest.TestCase):
    def test_plain_ones(self):
        self.assertEqual(mean((1, 1), ("a", "b")), (1, 1))
        self.assertEqual(mean((1, 1), ("aa", "ab", "b")), (3, 2))
        self.assertEqual(mean((2, 1), ("aa", "ab", "b")), (5, 3))
        self.assertEqual(mean((2, 1), ("a", "ba", "bb")), (4, 3))
        self.assertEqual(mean((5, 2, 1), ("aa", "ab", "ac", "b", "c")), (13, 8))
        self.assertEqual(mean((5, 2, 1, 1), ("a", "b", "c", "da", "db", "dc", "dd")), (10, 9))

    def test_first_and_even_books(self):
        for source in SOURCES:
            for long in range(1, {2: 5, 3: 3, 4: 2}[len(source)] + 1):
                with self.subTest(source=source, long=long):
                    self.assertEqual(mean(source, even_book(len(source), long)), (long, 1))

    def test_the_longest_pieces(self):
        whole = sum(Fraction(99, 100) ** long for long in range(31))
        self.assertEqual(mean((99, 1), comb(2, 32)), as_tuple(plain_mean((99, 1), comb(2, 32))))
        self.assertEqual(mean((1, 99), comb(2, 32)), as_tuple(plain_mean((1, 99), comb(2, 32))))
        self.assertIn(as_tuple(whole), (mean((99, 1), comb(2, 32)), mean((1, 99), comb(2, 32))))

    def test_against_fractions(self):
        for source, book in pairs():
            with self.subTest(source=source, book=book):
                self.assertEqual(mean(source, book), as_tuple(plain_mean(source, book)))

    def test_the_mean_is_all_shares_of_proper_beginnings(self):
        for source, book in pairs():
            total = (0, 1)
            for text in inner_of(book):
                total = added(total, share(source, text))
            with self.subTest(source=source, book=book):
                self.assertEqual(mean(source, book), total)
                self.assertEqual(mean(source, book), as_tuple(sum(plain_share(source, text)
                                                                  for text in plain_inner(book))))

    def test_shares_of_all_pieces_come_to_one(self):
        for source, book in pairs():
            total = (0, 1)
            for piece in book:
                total = added(total, share(source, piece))
            with self.subTest(source=source, book=book):
                self.assertEqual(total, (1, 1))


class BitsFor(unittest.TestCase):
    def test_at_the_edges(self):
        for size, bits in ((1, 0), (2, 1), (3, 2), (4, 2), (5, 3), (7, 3), (8, 3), (9, 4), (15, 4), (16, 4), (17, 5),
                           (31, 5), (32, 5), (33, 6), (64, 6), (65, 7)):
            with self.subTest(size=size):
                self.assertEqual(bits_for(size), bits)
                self.assertIs(type(bits_for(size)), int)

    def test_the_fewest_that_are_enough(self):
        for size in list(range(2, 300)) + [2 ** 200 - 1, 2 ** 200, 2 ** 200 + 1]:
            bits = bits_for(size)
            with self.subTest(size=size):
                self.assertLessEqual(size, 2 ** bits)
                self.assertGreater(size, 2 ** (bits - 1))

    def test_nothing_is_refused(self):
        for size in (0, -1, -5):
            with self.subTest(size=size):
                self.assertEqual(bits_for(size), 0)


class Gain(unittest.TestCase):
    def test_the_smallest_books(self):
        for source in SOURCES:
            many = len(source)
            with self.subTest(source=source):
                self.assertEqual(gain(source, first_book(many)), {2: (1, 1), 3: (1, 2), 4: (1, 2)}[many])

    def test_plain_ones(self):
        self.assertEqual(gain((1, 1), ("aa", "ab", "b")), (3, 4))
        self.assertEqual(gain((2, 1), ("aa", "ab", "b")), (5, 6))
        self.assertEqual(gain((1, 1), even_book(2, 5)), (1, 1))
        self.assertEqual(gain((1, 1, 1, 1), even_book(4, 2)), (1, 2))
        self.assertEqual(gain((5, 2, 1), ("aa", "ab", "ac", "b", "c")), (13, 24))
        self.assertEqual(gain((1, 1, 1), even_book(3, 2)), (1, 2))

    def test_against_fractions(self):
        for source, book in pairs():
            bits = 0
            while 2 ** bits < len(book):
                bits += 1
            with self.subTest(source=source, book=book):
                self.assertEqual(gain(source, book), as_tuple(plain_mean(source, book) / bits))


class LeastInner(unittest.TestCase):
    def test_the_empty_beginning_alone(self):
        for source in SOURCES:
            with self.subTest(source=source):
                self.assertEqual(least_inner(source, first_book(len(source))), (1, 1))

    def test_plain_ones(self):
        self.assertEqual(least_inner((2, 1), ("aa", "ab", "b")), (2, 3))
        self.assertEqual(least_inner((2, 1), ("a", "ba", "bb")), (1, 3))
        self.assertEqual(least_inner((2, 1), ("aaa", "aab", "ab", "ba", "bb")), (1, 3))
        self.assertEqual(least_inner((5, 1), ("aaa", "aab", "ab", "b")), (25, 36))
        self.assertEqual(least_inner((5, 2, 1), ("a", "ba", "bb", "bc", "c")), (1, 4))
        self.assertEqual(least_inner((5, 2, 1, 1), ("a", "b", "c", "da", "db", "dc", "dd")), (1, 9))

    def test_against_fractions(self):
        for source, book in pairs():
            with self.subTest(source=source, book=book):
                least = min(plain_share(source, text) for text in plain_inner(book))
                self.assertEqual(least_inner(source, book), as_tuple(least))


class GreatestPiece(unittest.TestCase):
    def test_plain_ones(self):
        self.assertEqual(greatest_piece((5, 2), ("a", "b")), "a")
        self.assertEqual(greatest_piece((2, 5), ("a", "b")), "b")
        self.assertEqual(greatest_piece((3, 1), ("aa", "ab", "b")), "aa")
        self.assertEqual(greatest_piece((5, 2, 1), ("aa", "ab", "ac", "b", "c")), "aa")
        self.assertEqual(greatest_piece((5, 4, 1), ("aa", "ab", "ac", "b", "c")), "b")
        self.assertEqual(greatest_piece((1, 1, 1, 2), ("a", "b", "c", "da", "db", "dc", "dd")), "a")

    def test_of_several_the_first(self):
        self.assertEqual(greatest_piece((1, 1), ("a", "b")), "a")
        self.assertEqual(greatest_piece((7, 7), even_book(2, 5)), "aaaaa")
        self.assertEqual(greatest_piece((1, 2, 2), ("a", "b", "c")), "b")
        self.assertEqual(greatest_piece((1, 1, 2, 2), ("a", "b", "c", "d")), "c")
        self.assertEqual(greatest_piece((1, 1), ("aa", "ab", "b")), "b")
        self.assertEqual(greatest_piece((2, 1, 1), ("aa", "ab", "ac", "b", "c")), "aa")
        self.assertEqual(greatest_piece((1, 2, 1), ("a", "ba", "bb", "bc", "c")), "a")

    def test_against_fractions(self):
        for source, book in pairs():
            shares = [plain_share(source, piece) for piece in book]
            with self.subTest(source=source, book=book):
                self.assertEqual(greatest_piece(source, book), book[shares.index(max(shares))])


class Told(unittest.TestCase):
    def test_fractions_are_tuples_of_whole_numbers_in_lowest_terms(self):
        for source, book in pairs():
            for function in (mean, gain, least_inner):
                told = function(source, book)
                with self.subTest(function=function.__name__, source=source, book=book):
                    self.assertIs(type(told), tuple)
                    self.assertEqual([type(part) for part in told], [int, int])
                    self.assertEqual(gcd(told[0], told[1]), 1)
                    self.assertGreater(told[1], 0)


class Refused(unittest.TestCase, Refusals):
    def test_what_is_no_source(self):
        for function in OF_SOURCE_AND_BOOK:
            for number, thing in enumerate(NO_SOURCES + strange_things()):
                with self.subTest(function=function.__name__, number=number):
                    for book in (("a", "b"), ("a", "b", "c"), ("a", "b", "c", "d")):
                        self.refused(NoSource, function, thing, book)

    def test_what_is_no_book(self):
        sources = {2: (5, 2), 3: (5, 2, 1), 4: (5, 2, 1, 1)}
        for function in OF_SOURCE_AND_BOOK:
            for many, thing in NO_PIECES + [(many, pieces) for many, pieces, paper in NO_BOOKS]:
                with self.subTest(function=function.__name__, many=many, thing=thing):
                    self.refused(NoBook, function, sources[many], thing)

    def test_books_of_other_numbers_of_letters(self):
        for function in OF_SOURCE_AND_BOOK:
            for source in SOURCES:
                for many, book in BOOKS:
                    if many != len(source):
                        with self.subTest(function=function.__name__, source=source, book=book):
                            self.refused(NoBook, function, source, book)

    def test_things_of_any_kind_as_a_book(self):
        for function in OF_SOURCE_AND_BOOK:
            for number, thing in enumerate(strange_things() + ["", "a", "ab", 2, 3, 4, (1, 2), (5, 2, 1)]):
                with self.subTest(function=function.__name__, number=number):
                    for source in ((5, 2), (5, 2, 1), (5, 2, 1, 1)):
                        self.refused(NoBook, function, source, thing)

    def test_the_source_is_refused_first(self):
        for function in OF_SOURCE_AND_BOOK:
            for number, thing in enumerate(NO_SOURCES + strange_things()):
                with self.subTest(function=function.__name__, number=number):
                    for book in (None, ("a",), ("a", "ab"), thing):
                        self.refused(NoSource, function, thing, book)

    def test_what_is_handed_in_is_not_changed(self):
        for number, (thing, again) in enumerate(zip(strange_things(), strange_things())):
            with self.subTest(number=number):
                for function in OF_SOURCE_AND_BOOK:
                    self.refused(NoSource, function, thing, thing)
                    self.refused(NoBook, function, (1, 1), thing)
                self.assertTrue(thing == again)


if __name__ == "__main__":
    unittest.main()
