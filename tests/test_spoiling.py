import unittest

from piecebooks.books import cut, even_book, first_book
from piecebooks.errors import NoBook, NoPiece, NoSize, NoWord
from piecebooks.spoiling import flipped, risky, unlike
from piecebooks.words import led, word_of
from tests.examples import BOOKS, FIVE, SEVEN, THREE, all_the_books, no_books
from tests.things import Refusals, comb, drawn_texts, nested, strange_things


def bits_of(many, book):
    return len(word_of(many, book, book[0]))


def number_with_other_bit(number, bits, place):
    return number ^ (1 << (bits - 1 - place))


def no_places(signs):
    kept = [thing for thing in strange_things() if type(thing) is not int or not 0 <= thing < len(signs)]
    return [-1, -len(signs), len(signs), len(signs) + 1, 10 ** 40, "0", "", (0,), [0], (0, 0)] + kept


class Flipped(unittest.TestCase, Refusals):
    def test_plain_ones(self):
        self.assertEqual(flipped(2, THREE, "001001", 1), "abbab")
        self.assertEqual(flipped(2, THREE, "001001", 2), "aaaaab")
        self.assertEqual(flipped(2, ("a", "b"), "0110", 3), "abbb")
        self.assertEqual(flipped(3, FIVE, "100000011", 0), "aabc")
        self.assertEqual(flipped(4, SEVEN, "110000", 4), "ddc")

    def test_at_the_first_place_the_last_and_just_beyond(self):
        self.assertEqual(flipped(2, THREE, "0000", 0), "baa")
        self.assertEqual(flipped(2, THREE, "0000", 3), "aaab")
        self.refused(NoSize, flipped, 2, THREE, "0000", 4)
        self.refused(NoSize, flipped, 2, THREE, "0000", -1)
        self.refused(NoSize, flipped, 2, THREE, "0000", -4)
        self.assertEqual(flipped(2, even_book(2, 5), "11111", 4), "bbbba")
        self.refused(NoSize, flipped, 2, even_book(2, 5), "11111", 5)

    def test_no_word_comes_of_it(self):
        self.refused(NoWord, flipped, 2, THREE, "01", 0)
        self.refused(NoWord, flipped, 2, THREE, "10", 1)
        self.refused(NoWord, flipped, 2, THREE, "000100", 2)
        self.refused(NoWord, flipped, 3, FIVE, "100", 2)
        self.refused(NoWord, flipped, 3, FIVE, "000011", 3)
        self.refused(NoWord, flipped, 4, SEVEN, "110", 2)
        self.refused(NoWord, flipped, 3, first_book(3), "10", 1)

    def test_one_piece_alone_is_changed_or_no_word_is_made(self):
        for many, book in all_the_books():
            bits = bits_of(many, book)
            for text in drawn_texts(many, 2, 20):
                signs = led(many, book, text)[0]
                pieces = cut(many, book, text)[0]
                for place in range(len(signs)):
                    spoilt = number_with_other_bit(book.index(pieces[place // bits]), bits, place % bits)
                    if spoilt >= len(book):
                        self.refused(NoWord, flipped, many, book, signs, place)
                    else:
                        changed = list(pieces)
                        changed[place // bits] = book[spoilt]
                        self.assertNotEqual(changed, pieces)
                        self.assertEqual(flipped(many, book, signs, place), "".join(changed))

    def test_signs_that_are_no_words_of_pieces(self):
        for signs in ("0", "001", "11", "0011", "1100", "02", "0a", "aa", " 0", "00 1", "00\n", "2", "\u0660\u0660"):
            for place in (0, 1, 100, -1, True, None, "0"):
                with self.subTest(signs=signs, place=place):
                    self.refused(NoWord, flipped, 2, THREE, signs, place)
        # Both signs of 11 make a word of it, but it is none itself.
        self.refused(NoWord, flipped, 2, THREE, "11", 0)
        for number, thing in enumerate(strange_things() + [2, ("00",), ["00"], ("00", "01"), nested(list, "00", 10)]):
            with self.subTest(number=number):
                for place in (0, 1, -1, None):
                    self.refused(NoWord, flipped, 2, THREE, thing, place)
                    self.refused(NoWord, flipped, 3, FIVE, thing, place)
                    self.refused(NoWord, flipped, 4, SEVEN, thing, place)

    def test_empty_signs_have_no_place(self):
        for many, book in BOOKS:
            for number, place in enumerate([0, 1, -1] + no_places("")):
                with self.subTest(many=many, book=book, number=number):
                    self.refused(NoSize, flipped, many, book, "", place)

    def test_what_is_no_place(self):
        for many, book, signs in ((2, THREE, "0010"), (3, FIVE, "000"), (4, SEVEN, "110000")):
            for number, thing in enumerate(no_places(signs)):
                with self.subTest(many=many, number=number):
                    self.refused(NoSize, flipped, many, book, signs, thing)

    def test_what_is_no_book(self):
        for number, (many, thing) in enumerate(no_books()):
            with self.subTest(number=number):
                for signs, place in (("0000", 0), ("", 0), ("z", 0), (None, None), ("00", -1)):
                    self.refused(NoBook, flipped, many, thing, signs, place)


class Risky(unittest.TestCase, Refusals):
    def test_plain_ones(self):
        self.assertEqual(risky(2, THREE), [("01", 0), ("10", 1)])
        self.assertEqual(risky(3, first_book(3)), [("01", 0), ("10", 1)])
        self.assertEqual(risky(3, FIVE), [("001", 0), ("010", 0), ("011", 0), ("100", 1), ("100", 2)])
        self.assertEqual(risky(4, SEVEN), [("011", 0), ("101", 1), ("110", 2)])

    def test_as_many_pieces_as_words_can_number(self):
        for many, book in ((2, ("a", "b")), (2, even_book(2, 2)), (2, comb(2, 8)), (2, comb(2, 16)), (2, comb(2, 32)),
                           (2, even_book(2, 5)), (4, first_book(4)), (4, even_book(4, 2))):
            with self.subTest(many=many, book=book):
                self.assertEqual(risky(many, book), [])

    def test_rising_and_all(self):
        for many, book in all_the_books():
            bits = bits_of(many, book)
            told = risky(many, book)
            expected = [(format(number, f"0{bits}b"), place) for number in range(len(book)) for place in range(bits)
                        if number_with_other_bit(number, bits, place) >= len(book)]
            with self.subTest(many=many, book=book):
                self.assertIs(type(told), list)
                self.assertEqual(told, expected)
                self.assertEqual(told, sorted(set(told)))

    def test_just_where_flipped_refuses(self):
        for many, book in ((2, THREE), (3, FIVE), (4, SEVEN), (2, comb(2, 31)), (3, comb(3, 31))):
            told = risky(many, book)
            for piece in book:
                word = word_of(many, book, piece)
                for place in range(len(word)):
                    with self.subTest(many=many, word=word, place=place):
                        if (word, place) in told:
                            self.refused(NoWord, flipped, many, book, word, place)
                        else:
                            self.assertIn(flipped(many, book, word, place), book)

    def test_told_lists_are_new(self):
        told = risky(2, THREE)
        told.clear()
        self.assertEqual(risky(2, THREE), [("01", 0), ("10", 1)])
        told = risky(2, ("a", "b"))
        told.append(("0", 0))
        self.assertEqual(risky(2, ("a", "b")), [])

    def test_what_is_no_book(self):
        for number, (many, thing) in enumerate(no_books()):
            with self.subTest(number=number):
                self.refused(NoBook, risky, many, thing)


class Unlike(unittest.TestCase, Refusals):
    def test_plain_ones(self):
        self.assertEqual(unlike(2, THREE, "aa", "ab"), 1)
        self.assertEqual(unlike(2, THREE, "ab", "b"), 2)
        self.assertEqual(unlike(3, FIVE, "bc", "c"), 3)
        self.assertEqual(unlike(4, SEVEN, "a", "dd"), 2)
        self.assertEqual(unlike(2, even_book(2, 5), "aaaaa", "bbbbb"), 5)

    def test_a_piece_and_itself(self):
        for many, book in all_the_books():
            for piece in book:
                with self.subTest(many=many, book=book, piece=piece):
                    self.assertEqual(unlike(many, book, piece, piece), 0)

    def test_all_pairs(self):
        for many, book in ((2, THREE), (3, FIVE), (4, SEVEN), (2, comb(2, 13)), (2, even_book(2, 5)), (3, comb(3, 11))):
            for first, one in enumerate(book):
                for second, other in enumerate(book):
                    with self.subTest(many=many, one=one, other=other):
                        self.assertEqual(unlike(many, book, one, other), bin(first ^ second).count("1"))

    def test_what_is_no_piece(self):
        for many, book, piece in ((2, THREE, "b"), (3, FIVE, "c"), (4, SEVEN, "dd")):
            for number, thing in enumerate(strange_things() + ["", "aaaa", "00", book, (piece,), [piece], 0, 1]):
                with self.subTest(many=many, number=number):
                    self.refused(NoPiece, unlike, many, book, thing, piece)
                    self.refused(NoPiece, unlike, many, book, piece, thing)
                    self.refused(NoPiece, unlike, many, book, thing, thing)

    def test_what_is_no_book(self):
        for number, (many, thing) in enumerate(no_books()):
            with self.subTest(number=number):
                for one, other in (("a", "b"), ("aa", "b"), ("", ""), (None, None), (["a"], "z")):
                    self.refused(NoBook, unlike, many, thing, one, other)

    def test_what_is_handed_in_is_not_changed(self):
        for number, (thing, again) in enumerate(zip(strange_things(), strange_things())):
            with self.subTest(number=number):
                self.refused(NoWord, flipped, 2, THREE, thing, thing)
                self.refused(NoBook, risky, 2, thing)
                self.refused(NoPiece, unlike, 2, THREE, thing, thing)
                self.assertTrue(thing == again)


if __name__ == "__main__":
    unittest.main()
