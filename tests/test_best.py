import unittest
from math import comb as ways_to_choose

from piecebooks.best import all_books, best_book, better, greatest_mean, how_many, is_best
from piecebooks.books import even_book, first_book, is_book
from piecebooks.errors import NoBook, NoSize, NoSource
from piecebooks.means import mean
from tests.examples import BOOKS, NO_BOOKS, NO_NUMBERS, NO_PIECES, NO_SOURCES, SMALL, SOURCES
from tests.things import (
    Refusals, as_tuple, comb, drawn_books, drawn_sources, no_sizes, plain_best, plain_inner, plain_mean, plain_share,
    plainly_book, rising_tuples, strange_things, texts_up_to,
)

SOME_SOURCE = {2: (5, 2), 3: (5, 2, 1), 4: (5, 2, 1, 1)}


def small_books():
    """Of two, three and four letters all books of small sizes, by how many pieces they have."""
    groups = []
    for many, size in SMALL.items():
        books = all_books(many, size)
        for count in sorted({len(book) for book in books}):
            groups.append((many, [book for book in books if len(book) == count]))
    return groups


class BestBook(unittest.TestCase, Refusals):
    def test_plain_ones(self):
        self.assertEqual(best_book((5, 2), 2), ("a", "b"))
        self.assertEqual(best_book((5, 2), 3), ("aa", "ab", "b"))
        self.assertEqual(best_book((5, 2), 4), ("aaa", "aab", "ab", "b"))
        self.assertEqual(best_book((2, 5), 4), ("a", "ba", "bba", "bbb"))
        self.assertEqual(best_book((3, 2), 4), ("aa", "ab", "ba", "bb"))
        self.assertEqual(best_book((5, 2, 1), 5), ("aa", "ab", "ac", "b", "c"))
        self.assertEqual(best_book((1, 1, 2, 1), 7), ("a", "b", "ca", "cb", "cc", "cd", "d"))

    def test_of_several_the_first_is_gone_on(self):
        self.assertEqual(best_book((1, 1), 3), ("aa", "ab", "b"))
        self.assertEqual(best_book((1, 1), 5), ("aaa", "aab", "ab", "ba", "bb"))
        self.assertEqual(best_book((1, 1), 6), ("aaa", "aab", "aba", "abb", "ba", "bb"))
        self.assertEqual(best_book((2, 2, 2), 5), ("aa", "ab", "ac", "b", "c"))
        self.assertEqual(best_book((1, 2, 2), 5), ("a", "ba", "bb", "bc", "c"))
        self.assertEqual(best_book((2, 1, 1), 7), ("aaa", "aab", "aac", "ab", "ac", "b", "c"))
        self.assertEqual(best_book((1, 1, 1, 1), 7), ("aa", "ab", "ac", "ad", "b", "c", "d"))

    def test_the_smallest_sizes(self):
        for source in SOURCES:
            with self.subTest(source=source):
                self.assertEqual(best_book(source, len(source)), first_book(len(source)))

    def test_the_greatest_size(self):
        self.assertEqual(best_book((1, 1), 32), even_book(2, 5))
        for source, count in (((1, 1), 32), ((99, 1), 32), ((5, 2, 1), 31), ((5, 2, 1, 1), 31)):
            with self.subTest(source=source):
                self.assertEqual(len(best_book(source, 32)), count)
        self.assertEqual(best_book((99, 1), 32)[0], "a" * 31)

    def test_sizes_between_two_that_partings_make(self):
        for source in SOURCES:
            many = len(source)
            for size in range(many, 33):
                book = best_book(source, size)
                with self.subTest(source=source, size=size):
                    self.assertLessEqual(len(book), size)
                    self.assertGreater(len(book) + many - 1, size)
                    self.assertEqual(book, best_book(source, len(book)))

    def test_against_a_plain_growth(self):
        for source in SOURCES + drawn_sources(12):
            for size in range(len(source), 33):
                book = best_book(source, size)
                with self.subTest(source=source, size=size):
                    self.assertEqual(book, plain_best(source, size))
                    self.assertIs(type(book), tuple)
                    self.assertIs(is_book(len(source), book), True)
                    self.assertIs(is_best(source, book), True)

    def test_refusals(self):
        for function in (best_book, greatest_mean):
            for number, thing in enumerate(NO_SOURCES + strange_things()):
                with self.subTest(function=function.__name__, number=number):
                    for size in (4, 32):
                        self.refused(NoSource, function, thing, size)
                    for size in (1, 33, None, "4", [4], thing):
                        self.refused(NoSource, function, thing, size)
            for many, source in SOME_SOURCE.items():
                for number, thing in enumerate(no_sizes(many)):
                    with self.subTest(function=function.__name__, many=many, number=number):
                        self.refused(NoSize, function, source, thing)


class GreatestMean(unittest.TestCase):
    def test_plain_ones(self):
        self.assertEqual(greatest_mean((5, 2), 2), (1, 1))
        self.assertEqual(greatest_mean((2, 1), 3), (5, 3))
        self.assertEqual(greatest_mean((1, 1), 32), (5, 1))
        self.assertEqual(greatest_mean((5, 2, 1), 6), (13, 8))
        self.assertEqual(greatest_mean((5, 2, 1, 1), 6), (1, 1))

    def test_it_is_that_of_the_best_book(self):
        for source in SOURCES + drawn_sources(9):
            for size in range(len(source), 33):
                with self.subTest(source=source, size=size):
                    self.assertEqual(greatest_mean(source, size), as_tuple(plain_mean(source, plain_best(source, size))))

    def test_no_book_of_no_more_pieces_has_a_greater_one(self):
        for source in SOURCES + drawn_sources(12):
            many = len(source)
            for size in range(many, SMALL[many] + 1):
                greatest = max(plain_mean(source, book) for book in all_books(many, size))
                with self.subTest(source=source, size=size):
                    self.assertEqual(greatest_mean(source, size), as_tuple(greatest))


class IsBestAndBetter(unittest.TestCase, Refusals):
    def test_plain_ones(self):
        self.assertIs(is_best((5, 2), ("aa", "ab", "b")), True)
        self.assertIs(is_best((5, 2), ("a", "ba", "bb")), False)
        self.assertIs(is_best((1, 1), ("a", "ba", "bb")), True)
        self.assertIs(is_best((3, 2), even_book(2, 2)), True)
        self.assertIs(is_best((2, 1), even_book(2, 2)), False)
        self.assertIs(is_best((5, 2, 1), ("a", "b", "ca", "cb", "cc")), False)
        self.assertIs(is_best((5, 2, 1, 1), ("a", "b", "c", "da", "db", "dc", "dd")), False)
        self.assertIs(is_best((1, 1, 1, 1), ("a", "b", "c", "da", "db", "dc", "dd")), True)
        self.assertIsNone(better((5, 2), ("aa", "ab", "b")))
        self.assertEqual(better((5, 2), ("a", "ba", "bb")), ("aa", "ab", "b"))
        self.assertEqual(better((5, 2, 1), ("a", "b", "ca", "cb", "cc")), ("aa", "ab", "ac", "b", "c"))

    def test_a_piece_as_great_as_a_proper_beginning(self):
        book = ("aaa", "aab", "ab", "b")
        for source, answer in (((2, 1), True), ((1, 1), False), ((99, 1), True), ((62, 38), True), ((61, 39), False)):
            with self.subTest(source=source):
                self.assertIs(is_best(source, book), answer)
        self.assertIs(is_best((2, 1, 1), ("aaa", "aab", "aac", "ab", "ac", "b", "c")), True)

    def test_the_smallest_books_are_best(self):
        for source in SOURCES:
            with self.subTest(source=source):
                self.assertIs(is_best(source, first_book(len(source))), True)
                self.assertIsNone(better(source, first_book(len(source))))

    def test_by_going_through_all_books_of_small_sizes(self):
        sources = SOURCES + drawn_sources(15)
        for many, books in small_books():
            for source in [source for source in sources if len(source) == many]:
                means = [plain_mean(source, book) for book in books]
                for book, its_mean in zip(books, means):
                    pieces = max(plain_share(source, piece) for piece in book)
                    inner = min(plain_share(source, text) for text in plain_inner(book))
                    best = is_best(source, book)
                    if best is not (its_mean == max(means)) or best is not (pieces <= inner):
                        self.fail(f"whether {book} is best of {source}")

    def test_better_by_going_through_all_books_of_small_sizes(self):
        for many, books in small_books():
            for source in [source for source in SOURCES if len(source) == many]:
                greatest = max(plain_mean(source, book) for book in books)
                for book in books:
                    told = better(source, book)
                    if plain_mean(source, book) == greatest:
                        right = told is None
                    else:
                        right = told in books and plain_mean(source, told) == greatest
                    if not right:
                        self.fail(f"what is better than {book} of {source}: {told}")

    def test_great_books(self):
        for source in SOURCES + drawn_sources(9):
            many = len(source)
            for book in drawn_books(many, 31) + [book for count, book in BOOKS if count == many]:
                told = better(source, book)
                with self.subTest(source=source, book=book):
                    if is_best(source, book):
                        self.assertIsNone(told)
                        self.assertEqual(mean(source, book), greatest_mean(source, len(book)))
                    else:
                        self.assertIs(type(told), tuple)
                        self.assertEqual(len(told), len(book))
                        self.assertIs(is_book(many, told), True)
                        self.assertIs(is_best(source, told), True)
                        self.assertGreater(plain_mean(source, told), plain_mean(source, book))

    def test_at_32_pieces(self):
        self.assertIs(is_best((1, 1), even_book(2, 5)), True)
        self.assertIs(is_best((1, 1), comb(2, 32)), False)
        self.assertIs(is_best((3, 1), even_book(2, 5)), False)
        self.assertEqual(len(better((1, 1), comb(2, 32))), 32)

    def test_refusals(self):
        for function in (is_best, better):
            for number, thing in enumerate(NO_SOURCES + strange_things()):
                with self.subTest(function=function.__name__, number=number):
                    for book in (("a", "b"), ("a", "b", "c"), None, ("a", "ab"), thing):
                        self.refused(NoSource, function, thing, book)
            for many, thing in NO_PIECES + [(many, pieces) for many, pieces, paper in NO_BOOKS]:
                with self.subTest(function=function.__name__, many=many, thing=thing):
                    self.refused(NoBook, function, SOME_SOURCE[many], thing)
            for number, thing in enumerate(strange_things() + ["", "ab", 2, 3, 4, (1, 2)]):
                with self.subTest(function=function.__name__, number=number):
                    for source in SOME_SOURCE.values():
                        self.refused(NoBook, function, source, thing)
            for source in SOURCES:
                for many, book in BOOKS:
                    if many != len(source):
                        with self.subTest(function=function.__name__, source=source, book=book):
                            self.refused(NoBook, function, source, book)


class AllBooks(unittest.TestCase, Refusals):
    def test_plain_ones(self):
        self.assertEqual(all_books(2, 2), [("a", "b")])
        self.assertEqual(all_books(2, 3), [("a", "b"), ("a", "ba", "bb"), ("aa", "ab", "b")])
        self.assertEqual(all_books(2, 4), [
            ("a", "b"), ("a", "ba", "bb"), ("aa", "ab", "b"),
            ("a", "ba", "bba", "bbb"), ("a", "baa", "bab", "bb"), ("aa", "ab", "ba", "bb"),
            ("aa", "aba", "abb", "b"), ("aaa", "aab", "ab", "b"),
        ])
        self.assertEqual(all_books(3, 5), [
            ("a", "b", "c"), ("a", "b", "ca", "cb", "cc"), ("a", "ba", "bb", "bc", "c"), ("aa", "ab", "ac", "b", "c"),
        ])
        self.assertEqual(all_books(4, 7), [
            ("a", "b", "c", "d"), ("a", "b", "c", "da", "db", "dc", "dd"), ("a", "b", "ca", "cb", "cc", "cd", "d"),
            ("a", "ba", "bb", "bc", "bd", "c", "d"), ("aa", "ab", "ac", "ad", "b", "c", "d"),
        ])

    def test_all_that_a_plain_judgement_finds(self):
        for many, size, texts in (
            (2, 4, texts_up_to(2, 3)),
            (3, 5, texts_up_to(3, 2)),
            (4, 7, texts_up_to(4, 1) + ["da", "db", "dc", "dd", "ba", "bb", "bc", "bd"]),
        ):
            found = [book for book in rising_tuples(texts) if len(book) <= size and plainly_book(many, book)]
            told = [book for book in all_books(many, size) if all(piece in texts for piece in book)]
            with self.subTest(many=many):
                self.assertEqual(told, sorted(found, key=lambda book: (len(book), book)))

    def test_small_ones_first_then_rising_each_once(self):
        for many, most in SMALL.items():
            for size in range(many, most + 1):
                told = all_books(many, size)
                with self.subTest(many=many, size=size):
                    self.assertIs(type(told), list)
                    self.assertEqual(told, sorted(told, key=lambda book: (len(book), book)))
                    self.assertEqual(len(told), len(set(told)))
                    self.assertTrue(all(is_book(many, book) and len(book) <= size for book in told))

    def test_sizes_between_two_that_partings_make(self):
        self.assertEqual(all_books(3, 4), all_books(3, 3))
        self.assertEqual(all_books(3, 10), all_books(3, 9))
        self.assertEqual(all_books(4, 5), all_books(4, 4))
        self.assertEqual(all_books(4, 6), all_books(4, 4))
        self.assertEqual(all_books(4, 15), all_books(4, 13))

    def test_told_lists_are_new(self):
        for many, size in ((2, 2), (2, 4), (3, 5), (4, 4)):
            told = all_books(many, size)
            kept = list(told)
            told.reverse()
            told.append(("z",))
            told[0] = None
            with self.subTest(many=many, size=size):
                self.assertEqual(all_books(many, size), kept)
                self.assertEqual(how_many(many, size), len(kept))


class HowMany(unittest.TestCase):
    def test_plain_ones(self):
        self.assertEqual([how_many(2, size) for size in range(2, 9)], [1, 3, 8, 22, 64, 196, 625])
        self.assertEqual([how_many(3, size) for size in range(3, 12)], [1, 1, 4, 4, 16, 16, 71, 71, 344])
        self.assertEqual([how_many(4, size) for size in range(4, 16)], [1, 1, 1, 5, 5, 5, 27, 27, 27, 167, 167, 167])

    def test_as_many_as_all_books_tells(self):
        for many, most in SMALL.items():
            for size in range(many, most + 1):
                with self.subTest(many=many, size=size):
                    self.assertEqual(how_many(many, size), len(all_books(many, size)))

    def test_all_sizes_by_the_known_count_of_trees(self):
        for many in (2, 3, 4):
            for size in range(many, 33):
                counts = [ways_to_choose(many * partings, partings) // ((many - 1) * partings + 1)
                          for partings in range(1, (size - 1) // (many - 1) + 1)]
                with self.subTest(many=many, size=size):
                    self.assertEqual(how_many(many, size), sum(counts))

    def test_at_size_32(self):
        self.assertEqual(how_many(2, 32), 19720133460129649)
        self.assertEqual(how_many(3, 32), 13308564681)
        self.assertEqual(how_many(4, 32), 31188920)


class NoSizes(unittest.TestCase, Refusals):
    def test_sizes_of_any_kind(self):
        for function in (all_books, how_many):
            for many in (2, 3, 4):
                for number, thing in enumerate(no_sizes(many)):
                    with self.subTest(function=function.__name__, many=many, number=number):
                        self.refused(NoSize, function, many, thing)

    def test_numbers_of_letters_of_any_kind(self):
        for function in (all_books, how_many):
            for number, thing in enumerate(NO_NUMBERS + strange_things()):
                with self.subTest(function=function.__name__, number=number):
                    for size in (2, 4, 5, 32, 1, 33, None, thing):
                        self.refused(NoSize, function, thing, size)

    def test_what_is_handed_in_is_not_changed(self):
        for number, (thing, again) in enumerate(zip(strange_things(), strange_things())):
            with self.subTest(number=number):
                self.refused(NoSize, all_books, thing, thing)
                self.refused(NoSize, how_many, thing, thing)
                self.refused(NoSource, best_book, thing, thing)
                self.refused(NoBook, better, (1, 1), thing)
                self.refused(NoBook, is_best, (1, 1), thing)
                self.assertTrue(thing == again)


if __name__ == "__main__":
    unittest.main()
