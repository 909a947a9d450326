import unittest

from piecebooks.best import all_books
from piecebooks.books import even_book, first_book
from piecebooks.costs import best_for, dearest, fewest_words, words_for
from piecebooks.errors import NoBook, NoLetters, NoSize
from tests.examples import FIVE, NO_NUMBERS, SEVEN, SMALL, THREE, all_the_books, no_books
from tests.things import Refusals, all_texts, comb, drawn_texts, no_sizes, strange_things


def plain_words(book, text):
    """How many pieces it takes, the last of them gone on with whatever letters it lacks."""
    count = 0
    while text != "":
        begun = [piece for piece in book if text.startswith(piece)]
        text = text[len(begun[0]):] if begun else ""
        count += 1
    return count


def no_texts():
    return strange_things() + [2, ("a",), ["a"], ("a", "b"), ["ab"]]


class WordsFor(unittest.TestCase, Refusals):
    def test_plain_ones(self):
        self.assertEqual(words_for(2, THREE, "aab"), 2)
        self.assertEqual(words_for(2, THREE, "aaba"), 3)
        self.assertEqual(words_for(2, ("a", "b"), "abba"), 4)
        self.assertEqual(words_for(3, FIVE, "cabc"), 3)
        self.assertEqual(words_for(3, FIVE, "cabcb"), 4)
        self.assertEqual(words_for(4, SEVEN, "ddd"), 2)

    def test_the_empty_text(self):
        for many, book in all_the_books():
            with self.subTest(many=many, book=book):
                self.assertEqual(words_for(many, book, ""), 0)

    def test_all_is_left(self):
        self.assertEqual(words_for(2, THREE, "a"), 1)
        self.assertEqual(words_for(2, comb(2, 32), "a" * 30), 1)
        self.assertEqual(words_for(2, comb(2, 32), "a" * 31), 1)
        self.assertEqual(words_for(2, comb(2, 32), "a" * 32), 2)

    def test_by_a_plain_count(self):
        for many, book in all_the_books():
            for text in drawn_texts(many, 12, 60):
                with self.subTest(many=many, book=book, text=text):
                    self.assertEqual(words_for(many, book, text), plain_words(book, text))

    def test_what_is_no_text_of_letters(self):
        for many, book in ((2, THREE), (3, FIVE), (4, SEVEN)):
            for number, thing in enumerate(no_texts()):
                with self.subTest(many=many, number=number):
                    self.refused(NoLetters, words_for, many, book, thing)
        self.refused(NoLetters, words_for, 2, THREE, "abc")
        self.refused(NoLetters, words_for, 3, FIVE, "d")

    def test_what_is_no_book(self):
        for number, (many, thing) in enumerate(no_books()):
            with self.subTest(number=number):
                for text in ("", "ab", "z", None, ["a"]):
                    self.refused(NoBook, words_for, many, thing, text)


class BestFor(unittest.TestCase, Refusals):
    def test_plain_ones(self):
        self.assertEqual(best_for(2, 3, "aaaa"), THREE)
        self.assertEqual(fewest_words(2, 3, "aaaa"), 2)
        self.assertEqual(best_for(2, 3, "bb"), ("a", "ba", "bb"))
        self.assertEqual(best_for(2, 4, "abaaba"), ("aa", "aba", "abb", "b"))
        self.assertEqual(fewest_words(2, 4, "abaaba"), 2)
        self.assertEqual(best_for(3, 5, "cbcb"), ("a", "b", "ca", "cb", "cc"))
        self.assertEqual(fewest_words(3, 5, "cbcb"), 2)
        self.assertEqual(best_for(4, 7, "dada"), SEVEN)
        self.assertEqual(fewest_words(4, 7, "dada"), 2)

    def test_of_several_the_first(self):
        self.assertEqual(best_for(2, 4, "ababab"), THREE)
        self.assertEqual(best_for(2, 7, "a"), ("a", "b"))
        self.assertEqual(best_for(2, 4, "ba"), ("a", "ba", "bb"))
        self.assertEqual(best_for(2, 7, "aa"), THREE)
        self.assertEqual(best_for(2, 4, "bba"), ("a", "ba", "bba", "bbb"))
        self.assertEqual(best_for(3, 10, "c"), ("a", "b", "c"))
        self.assertEqual(best_for(4, 7, "abcd"), ("a", "b", "ca", "cb", "cc", "cd", "d"))

    def test_the_empty_text(self):
        for many, most in SMALL.items():
            for size in range(many, most + 1):
                with self.subTest(many=many, size=size):
                    self.assertEqual(best_for(many, size, ""), first_book(many))
                    self.assertEqual(fewest_words(many, size, ""), 0)

    def test_the_least_size(self):
        for many in (2, 3, 4):
            for text in drawn_texts(many, 20, 30):
                with self.subTest(many=many, text=text):
                    self.assertEqual(best_for(many, many, text), first_book(many))
                    self.assertEqual(fewest_words(many, many, text), len(text))

    def test_between_two_sizes_that_partings_make(self):
        for many, size, same in ((3, 4, 3), (3, 6, 5), (3, 8, 7), (4, 5, 4), (4, 6, 4), (4, 8, 7), (4, 12, 10)):
            for text in drawn_texts(many, 10, 20):
                with self.subTest(many=many, size=size, text=text):
                    self.assertEqual(best_for(many, size, text), best_for(many, same, text))
                    self.assertEqual(fewest_words(many, size, text), fewest_words(many, same, text))

    def test_no_book_takes_fewer_and_none_ahead_as_few(self):
        for many, most in SMALL.items():
            for size in range(many, most + 1):
                books = all_books(many, size)
                for text in drawn_texts(many, 12, 25):
                    counts = [plain_words(book, text) for book in books]
                    fewest = min(counts)
                    with self.subTest(many=many, size=size, text=text):
                        self.assertEqual(fewest_words(many, size, text), fewest)
                        self.assertEqual(best_for(many, size, text), books[counts.index(fewest)])
                        self.assertEqual(words_for(many, best_for(many, size, text), text), fewest)

    def test_what_is_no_text_of_letters(self):
        for function in (best_for, fewest_words):
            for many, size in ((2, 2), (2, 5), (3, 5), (4, 4)):
                for number, thing in enumerate(no_texts()):
                    with self.subTest(function=function.__name__, many=many, size=size, number=number):
                        self.refused(NoLetters, function, many, size, thing)
            self.refused(NoLetters, function, 2, 4, "abc")
            self.refused(NoLetters, function, 3, 4, "abcd")

    def test_what_is_no_size(self):
        for function in (best_for, fewest_words):
            for many in (2, 3, 4):
                for number, thing in enumerate(no_sizes(many)):
                    with self.subTest(function=function.__name__, many=many, number=number):
                        for text in ("ab", "", "z", None, ["a"]):
                            self.refused(NoSize, function, many, thing, text)
            for number, thing in enumerate(NO_NUMBERS + strange_things()):
                with self.subTest(function=function.__name__, number=number):
                    for size in (2, 4, 5, 33, None, thing):
                        for text in ("ab", "z", None):
                            self.refused(NoSize, function, thing, size, text)


class Dearest(unittest.TestCase, Refusals):
    def test_plain_ones(self):
        self.assertEqual(dearest(2, ("a", "b"), 3), ("aaa", 3))
        self.assertEqual(dearest(2, THREE, 1), ("a", 1))
        self.assertEqual(dearest(2, THREE, 2), ("ba", 2))
        self.assertEqual(dearest(2, THREE, 5), ("bbbba", 5))
        self.assertEqual(dearest(3, FIVE, 3), ("aaa", 3))
        self.assertEqual(dearest(3, ("aa", "ab", "ac", "b", "c"), 2), ("ba", 2))
        self.assertEqual(dearest(4, SEVEN, 5), ("aaaaa", 5))
        self.assertEqual(dearest(4, even_book(4, 2), 5), ("aaaaa", 3))

    def test_at_1(self):
        for many, book in all_the_books():
            with self.subTest(many=many, book=book):
                self.assertEqual(dearest(many, book, 1), ("a", 1))

    def test_of_several_the_first_of_all_texts(self):
        for many, book in all_the_books():
            for length in (1, 2, 3, 4, 5) if many < 4 else (1, 2, 3, 5):
                texts = all_texts(many, length)
                counts = [plain_words(book, text) for text in texts]
                told = dearest(many, book, length)
                with self.subTest(many=many, book=book, length=length):
                    self.assertIs(type(told), tuple)
                    self.assertEqual(told, (texts[counts.index(max(counts))], max(counts)))

    def test_what_is_no_length(self):
        kept = [thing for thing in strange_things() if type(thing) is not int or not 1 <= thing <= 5]
        for number, thing in enumerate([0, 6, 7, -1, -5, 10 ** 40, "1", (1,), [1], (3, 3)] + kept):
            for many, book in ((2, THREE), (3, FIVE), (4, SEVEN)):
                with self.subTest(many=many, number=number):
                    self.refused(NoSize, dearest, many, book, thing)

    def test_what_is_no_book(self):
        for number, (many, thing) in enumerate(no_books()):
            with self.subTest(number=number):
                for length in (1, 5, 0, 6, True, None, "1"):
                    self.refused(NoBook, dearest, many, thing, length)

    def test_what_is_handed_in_is_not_changed(self):
        for number, (thing, again) in enumerate(zip(strange_things(), strange_things())):
            with self.subTest(number=number):
                self.refused(NoBook, words_for, 2, thing, "")
                self.refused(NoBook, dearest, 2, thing, 1)
                self.refused(NoSize, best_for, thing, thing, thing)
                self.refused(NoSize, fewest_words, thing, 4, thing)
                self.refused(NoLetters, best_for, 2, 4, thing)
                self.assertTrue(thing == again)


if __name__ == "__main__":
    unittest.main()
