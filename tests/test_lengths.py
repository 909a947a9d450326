import unittest
from fractions import Fraction

from piecebooks.books import even_book, first_book
from piecebooks.errors import NoBook, NoSize, NoSource
from piecebooks.lengths import length_shares, longer_share, second_mean
from piecebooks.means import mean
from tests.examples import BOOKS, NO_SOURCES, SOURCES, THREE, no_books_of_sources
from tests.things import Refusals, as_tuple, comb, drawn_books, drawn_sources, plain_share, strange_things


def sources_and_books():
    found = [(source, book) for source in SOURCES for many, book in BOOKS if many == len(source)]
    for number, source in enumerate(drawn_sources(30)):
        found.append((source, drawn_books(len(source), 31)[number % 31]))
    return found


def no_lengths():
    kept = [thing for thing in strange_things() if type(thing) is not int or not 0 <= thing <= 99]
    return [-1, -2, 100, 101, 10 ** 40, "1", "", (1,), [1], (0, 1)] + kept


class LengthShares(unittest.TestCase):
    def test_plain_ones(self):
        self.assertEqual(length_shares((2, 1), THREE), [(1, (1, 3)), (2, (2, 3))])
        self.assertEqual(length_shares((5, 2), ("a", "b")), [(1, (1, 1))])
        self.assertEqual(length_shares((5, 2, 1), ("a", "ba", "bb", "bc", "c")), [(1, (3, 4)), (2, (1, 4))])
        self.assertEqual(length_shares((5, 2, 1, 1), ("a", "b", "c", "da", "db", "dc", "dd")), [(1, (8, 9)), (2, (1, 9))])

    def test_one_length_alone(self):
        for source in SOURCES:
            for length in (1, 2):
                with self.subTest(source=source, length=length):
                    self.assertEqual(length_shares(source, even_book(len(source), length)), [(length, (1, 1))])

    def test_lengths_that_no_piece_has_are_left_out(self):
        book = ("a", "baa", "bab", "bba", "bbb")
        self.assertEqual(length_shares((1, 1), book), [(1, (1, 2)), (3, (1, 2))])
        self.assertEqual([length for length, part in length_shares((1, 1), comb(2, 32))], list(range(1, 32)))

    def test_by_plain_fractions(self):
        for source, book in sources_and_books():
            told = length_shares(source, book)
            lengths = sorted({len(piece) for piece in book})
            with self.subTest(source=source, book=book):
                self.assertIs(type(told), list)
                self.assertTrue(all(type(row) is tuple for row in told))
                self.assertEqual(told, [
                    (length, as_tuple(sum(plain_share(source, piece) for piece in book if len(piece) == length)))
                    for length in lengths
                ])

    def test_they_come_to_1_and_to_the_mean(self):
        for source, book in sources_and_books():
            rows = [(length, Fraction(*part)) for length, part in length_shares(source, book)]
            with self.subTest(source=source, book=book):
                self.assertEqual(sum(part for length, part in rows), 1)
                self.assertEqual(as_tuple(sum(length * part for length, part in rows)), mean(source, book))

    def test_told_lists_are_new(self):
        told = length_shares((2, 1), THREE)
        told.reverse()
        told[0] = None
        told.append((3, (1, 1)))
        self.assertEqual(length_shares((2, 1), THREE), [(1, (1, 3)), (2, (2, 3))])
        self.assertEqual(second_mean((2, 1), THREE), (3, 1))


class LongerShare(unittest.TestCase, Refusals):
    def test_plain_ones(self):
        self.assertEqual(longer_share((2, 1), THREE, 1), (2, 3))
        self.assertEqual(longer_share((5, 2, 1), ("a", "ba", "bb", "bc", "c"), 1), (1, 4))
        self.assertEqual(longer_share((5, 2, 1, 1), ("a", "b", "c", "da", "db", "dc", "dd"), 1), (1, 9))
        self.assertEqual(longer_share((1, 1), comb(2, 32), 30), (1, 2 ** 30))

    def test_at_0_and_99(self):
        for source, book in sources_and_books():
            with self.subTest(source=source, book=book):
                self.assertEqual(longer_share(source, book, 0), (1, 1))
                self.assertEqual(longer_share(source, book, 99), (0, 1))
                self.assertEqual(longer_share(source, book, 98), (0, 1))

    def test_at_the_longest_and_one_below(self):
        for source, book in sources_and_books():
            longest = max(len(piece) for piece in book)
            last = sum(plain_share(source, piece) for piece in book if len(piece) == longest)
            with self.subTest(source=source, book=book):
                self.assertEqual(longer_share(source, book, longest), (0, 1))
                self.assertEqual(longer_share(source, book, longest + 1), (0, 1))
                self.assertEqual(longer_share(source, book, longest - 1), as_tuple(last))

    def test_by_plain_fractions(self):
        for source, book in sources_and_books():
            for length in range(0, 35):
                expected = sum((plain_share(source, piece) for piece in book if len(piece) > length), Fraction(0))
                if longer_share(source, book, length) != as_tuple(expected):
                    self.fail(f"{source}, {book}, {length}")

    def test_what_is_no_length(self):
        for source, book in (((5, 2), THREE), ((5, 2, 1), first_book(3)), ((5, 2, 1, 1), even_book(4, 2))):
            for number, thing in enumerate(no_lengths()):
                with self.subTest(source=source, number=number):
                    self.refused(NoSize, longer_share, source, book, thing)


class SecondMean(unittest.TestCase):
    def test_plain_ones(self):
        self.assertEqual(second_mean((2, 1), THREE), (3, 1))
        self.assertEqual(second_mean((1, 1), THREE), (5, 2))
        self.assertEqual(second_mean((5, 2, 1), ("a", "ba", "bb", "bc", "c")), (7, 4))
        self.assertEqual(second_mean((5, 2, 1, 1), ("a", "b", "c", "da", "db", "dc", "dd")), (4, 3))

    def test_one_length_alone(self):
        for many, length in ((2, 1), (2, 2), (2, 5), (3, 1), (3, 3), (4, 1), (4, 2)):
            for source in SOURCES:
                if len(source) == many:
                    with self.subTest(source=source, length=length):
                        self.assertEqual(second_mean(source, even_book(many, length)), (length * length, 1))

    def test_by_plain_fractions(self):
        for source, book in sources_and_books():
            expected = sum(plain_share(source, piece) * len(piece) ** 2 for piece in book)
            with self.subTest(source=source, book=book):
                self.assertEqual(second_mean(source, book), as_tuple(expected))


class NoSourcesAndBooks(unittest.TestCase, Refusals):
    def all_refused(self, error, source, book):
        self.refused(error, length_shares, source, book)
        self.refused(error, second_mean, source, book)
        for length in (0, 5, 99, -1, 100, True, None, "1"):
            self.refused(error, longer_share, source, book, length)

    def test_what_is_no_source(self):
        for number, thing in enumerate(NO_SOURCES + strange_things()):
            with self.subTest(number=number):
                for book in (("a", "b"), ("a", "b", "c"), ("a",), None, thing):
                    self.all_refused(NoSource, thing, book)

    def test_what_is_no_book(self):
        for number, (source, thing) in enumerate(no_books_of_sources()):
            with self.subTest(number=number):
                self.all_refused(NoBook, source, thing)

    def test_what_is_handed_in_is_not_changed(self):
        for number, (thing, again) in enumerate(zip(strange_things(), strange_things())):
            with self.subTest(number=number):
                self.all_refused(NoSource, thing, thing)
                self.all_refused(NoBook, (1, 1), thing)
                self.assertTrue(thing == again)


if __name__ == "__main__":
    unittest.main()
