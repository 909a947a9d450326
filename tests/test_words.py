import unittest

from piecebooks.books import cut, even_book
from piecebooks.errors import NoBook, NoLetters, NoPiece, NoWord
from piecebooks.words import back, from_word, led, piece_of, word_of
from tests.examples import BOOKS, FIVE, NO_BOOKS, NO_NUMBERS, NO_PIECES, SEVEN, THREE, all_the_books
from tests.things import Refusals, comb, drawn_texts, nested, strange_things


def plain_words(book):
    bits = 1
    while 2 ** bits < len(book):
        bits += 1
    return [format(number, f"0{bits}b") for number in range(len(book))]


class WordOf(unittest.TestCase, Refusals):
    def test_plain_ones(self):
        self.assertEqual([word_of(2, ("a", "b"), piece) for piece in ("a", "b")], ["0", "1"])
        self.assertEqual([word_of(2, THREE, piece) for piece in THREE], ["00", "01", "10"])
        self.assertEqual([word_of(3, FIVE, piece) for piece in FIVE], ["000", "001", "010", "011", "100"])
        self.assertEqual(word_of(4, SEVEN, "da"), "011")
        self.assertEqual(word_of(4, SEVEN, "dd"), "110")

    def test_the_first_and_the_last_piece(self):
        for many, book, last in ((2, comb(2, 32), "11111"), (2, comb(2, 31), "11110"), (2, comb(2, 17), "10000"),
                                 (3, even_book(3, 3), "11010"), (3, ("a", "b", "c"), "10"),
                                 (4, even_book(4, 2), "1111"), (4, ("a", "b", "c", "d"), "11")):
            with self.subTest(many=many, book=book):
                self.assertEqual(word_of(many, book, book[0]), "0" * len(last))
                self.assertEqual(word_of(many, book, book[-1]), last)

    def test_all_of_one_length_the_great_bits_first(self):
        for many, book in all_the_books():
            with self.subTest(many=many, book=book):
                self.assertEqual([word_of(many, book, piece) for piece in book], plain_words(book))

    def test_what_is_no_piece(self):
        for thing in ("", "a", "ba", "aaa", "bb", "c", ("b",), ["b"], ("aa", "ab", "b"), 0, 1, 2, "00"):
            with self.subTest(thing=thing):
                self.refused(NoPiece, word_of, 2, THREE, thing)
        for number, thing in enumerate(strange_things()):
            with self.subTest(number=number):
                self.refused(NoPiece, word_of, 2, THREE, thing)
                self.refused(NoPiece, word_of, 3, FIVE, thing)
                self.refused(NoPiece, word_of, 4, SEVEN, thing)


class PieceOf(unittest.TestCase, Refusals):
    def test_plain_ones(self):
        self.assertEqual([piece_of(2, ("a", "b"), word) for word in ("0", "1")], ["a", "b"])
        self.assertEqual([piece_of(2, THREE, word) for word in ("00", "01", "10")], ["aa", "ab", "b"])
        self.assertEqual(piece_of(3, FIVE, "100"), "c")
        self.assertEqual(piece_of(4, SEVEN, "011"), "da")
        self.assertEqual(piece_of(2, comb(2, 32), "11111"), comb(2, 32)[-1])

    def test_words_lead_back(self):
        for many, book in all_the_books():
            with self.subTest(many=many, book=book):
                self.assertEqual([piece_of(many, book, word_of(many, book, piece)) for piece in book], list(book))

    def test_numbers_that_are_no_piece_s(self):
        for many, book in all_the_books():
            words = plain_words(book)
            for number in range(len(book), 2 ** len(words[0])):
                with self.subTest(many=many, book=book, number=number):
                    self.refused(NoWord, piece_of, many, book, format(number, f"0{len(words[0])}b"))

    def test_what_is_no_word(self):
        for thing in ("", "0", "1", "000", "001", "11", "0000", "0 ", " 0", "2", "02", "aa", "b", "0b", "+1", "-1", "0\n",
                      "\u0660\u0660", 0, 1, 2, ("00",), ["00"], ("0", "0")):
            with self.subTest(thing=thing):
                self.refused(NoWord, piece_of, 2, THREE, thing)
        for number, thing in enumerate(strange_things()):
            with self.subTest(number=number):
                self.refused(NoWord, piece_of, 2, THREE, thing)
                self.refused(NoWord, piece_of, 3, FIVE, thing)
                self.refused(NoWord, piece_of, 4, SEVEN, thing)


class Led(unittest.TestCase, Refusals):
    def test_plain_ones(self):
        self.assertEqual(led(2, THREE, "aabab"), ("001001", ""))
        self.assertEqual(led(2, THREE, "aaba"), ("0010", "a"))
        self.assertEqual(led(2, ("a", "b"), "abba"), ("0110", ""))
        self.assertEqual(led(3, FIVE, "cabcb"), ("100000011", "b"))
        self.assertEqual(led(4, SEVEN, "ddd"), ("110", "d"))

    def test_the_empty_text(self):
        for many, book in BOOKS:
            with self.subTest(many=many, book=book):
                self.assertEqual(led(many, book, ""), ("", ""))

    def test_all_is_left(self):
        self.assertEqual(led(2, THREE, "a"), ("", "a"))
        self.assertEqual(led(2, comb(2, 32), "a" * 30), ("", "a" * 30))
        self.assertEqual(led(4, even_book(4, 2), "d"), ("", "d"))

    def test_words_of_all_pieces_and_what_cut_leaves(self):
        for many, book in all_the_books():
            for text in drawn_texts(many, 12, 80):
                told = led(many, book, text)
                pieces, left = cut(many, book, text)
                words = dict(zip(book, plain_words(book)))
                with self.subTest(many=many, book=book, text=text):
                    self.assertIs(type(told), tuple)
                    self.assertEqual(told, ("".join(words[piece] for piece in pieces), left))

    def test_what_is_no_text_of_letters(self):
        things = strange_things() + [2, (1, 2), ("a",), ("a", "b"), ["a"], nested(list, "ab", 10)]
        for many, book in ((2, THREE), (3, FIVE), (4, SEVEN)):
            for number, thing in enumerate(things):
                with self.subTest(many=many, number=number):
                    self.refused(NoLetters, led, many, book, thing)
        self.refused(NoLetters, led, 2, THREE, "c")
        self.refused(NoLetters, led, 2, THREE, "aabc")
        self.refused(NoLetters, led, 3, FIVE, "dabc")
        self.refused(NoLetters, led, 4, SEVEN, "abcde")


class Back(unittest.TestCase, Refusals):
    def test_plain_ones(self):
        self.assertEqual(back(2, THREE, "001001"), "aabab")
        self.assertEqual(back(2, ("a", "b"), "0110"), "abba")
        self.assertEqual(back(3, FIVE, "100000011"), "cabc")
        self.assertEqual(back(4, SEVEN, "110"), "dd")

    def test_the_empty_text(self):
        for many, book in BOOKS:
            with self.subTest(many=many, book=book):
                self.assertEqual(back(many, book, ""), "")

    def test_words_lead_back_to_the_text_but_for_what_is_left(self):
        for many, book in all_the_books():
            for text in drawn_texts(many, 12, 80):
                signs, left = led(many, book, text)
                with self.subTest(many=many, book=book, text=text):
                    self.assertEqual(back(many, book, signs) + left, text)

    def test_signs_that_are_not_whole_words(self):
        for many, book, signs in ((2, THREE, "0"), (2, THREE, "001"), (2, THREE, "00100"), (3, FIVE, "00"),
                                  (3, FIVE, "0000"), (4, SEVEN, "00000"), (2, comb(2, 32), "0" * 9)):
            with self.subTest(many=many, book=book, signs=signs):
                self.refused(NoWord, back, many, book, signs)

    def test_other_signs(self):
        for signs in ("aa", "0a", "00 0", "0010\n0", " 000", "0x", "02", "-1", "002000", "0000\u0660\u0660"):
            with self.subTest(signs=signs):
                self.refused(NoWord, back, 2, THREE, signs)
        self.refused(NoWord, back, 2, ("a", "b"), "012")
        self.refused(NoWord, back, 2, ("a", "b"), " ")

    def test_a_number_that_is_no_piece_s(self):
        for many, book, signs in ((2, THREE, "11"), (2, THREE, "1100"), (2, THREE, "0011"), (2, THREE, "001100"),
                                  (3, FIVE, "101"), (3, FIVE, "000111"), (4, SEVEN, "111"), (4, SEVEN, "110111000"),
                                  (3, ("a", "b", "c"), "11"), (2, comb(2, 31), "11111")):
            with self.subTest(many=many, book=book, signs=signs):
                self.refused(NoWord, back, many, book, signs)

    def test_things_of_any_kind(self):
        for number, thing in enumerate(strange_things() + [2, 3, ("00",), ["00"], ("00", "01"), nested(list, "00", 10)]):
            with self.subTest(number=number):
                self.refused(NoWord, back, 2, THREE, thing)
                self.refused(NoWord, back, 3, FIVE, thing)
                self.refused(NoWord, back, 4, SEVEN, thing)


class FromWord(unittest.TestCase, Refusals):
    def test_plain_ones(self):
        self.assertEqual(from_word(2, THREE, "001001", 0), "aabab")
        self.assertEqual(from_word(2, THREE, "001001", 1), "bab")
        self.assertEqual(from_word(2, THREE, "001001", 2), "ab")
        self.assertEqual(from_word(3, FIVE, "100000011", 1), "abc")
        self.assertEqual(from_word(4, SEVEN, "110000", 1), "a")

    def test_at_as_many_words_as_there_are_and_beyond(self):
        for number in (3, 4, 6, 7, 100, 10 ** 40):
            with self.subTest(number=number):
                self.assertEqual(from_word(2, THREE, "001001", number), "")
                self.assertEqual(from_word(2, THREE, "", number), "")
        self.assertEqual(from_word(2, THREE, "", 0), "")

    def test_below_0_nothing_is_refused(self):
        for number in (-1, -2, -10):
            with self.subTest(number=number):
                self.assertEqual(from_word(2, THREE, "001001", number), "aabab")

    def test_from_each_word_on(self):
        for many, book in all_the_books():
            for text in drawn_texts(many, 5, 60):
                signs = led(many, book, text)[0]
                pieces = cut(many, book, text)[0]
                for number in range(len(pieces) + 2):
                    if from_word(many, book, signs, number) != "".join(pieces[number:]):
                        self.fail(f"of {many} letters, {book}, {text} from {number}")

    def test_words_that_are_not_read_may_be_none(self):
        self.assertEqual(from_word(2, THREE, "1100", 1), "aa")
        self.assertEqual(from_word(2, THREE, "11", 1), "")
        self.assertEqual(from_word(2, THREE, "001110", 2), "b")
        self.assertEqual(from_word(3, FIVE, "111101100", 2), "c")
        self.assertEqual(from_word(2, THREE, "xx00", 1), "aa")

    def test_words_that_are_read_and_none(self):
        for number in (0, 1, 2):
            with self.subTest(number=number):
                self.refused(NoWord, from_word, 2, THREE, "000011", number)
                self.refused(NoWord, from_word, 2, THREE, "00000x", number)
        self.refused(NoWord, from_word, 2, THREE, "1100", 0)
        self.refused(NoWord, from_word, 3, FIVE, "000101", 1)
        self.refused(NoWord, from_word, 4, SEVEN, "000111", 1)

    def test_signs_that_are_not_whole_words(self):
        for number in (0, 1, 2, 3, 10):
            for signs in ("0", "001", "00100", "0010011"):
                with self.subTest(signs=signs, number=number):
                    self.refused(NoWord, from_word, 2, THREE, signs, number)

    def test_things_of_any_kind(self):
        for number, thing in enumerate(strange_things() + [2, 3, ("00",), ["00"], ("00", "01"), nested(list, "00", 10)]):
            # From a later word on, a text is judged by its length and the words that are read.
            for start in (0, 1, 5) if type(thing) is not str else (0,):
                with self.subTest(number=number, start=start):
                    self.refused(NoWord, from_word, 2, THREE, thing, start)
                    self.refused(NoWord, from_word, 3, FIVE, thing, start)
                    self.refused(NoWord, from_word, 4, SEVEN, thing, start)


class NoBooks(unittest.TestCase, Refusals):
    # Behind what is no book stands what would do, then what is refused too.
    CALLS = [
        (word_of, [("a",), ("b",), ("",), (None,), (["a"],)]),
        (piece_of, [("0",), ("00",), ("",), (None,), (["0"],)]),
        (led, [("ab",), ("",), ("z",), (None,), (["a"],)]),
        (back, [("0000",), ("",), ("z",), (None,), (["0"],)]),
        (from_word, [("0000", 0), ("", 0), ("z", 1), (None, 0), (["0"], 0)]),
    ]

    def all_refused(self, many, thing):
        for function, calls in self.CALLS:
            for call in calls:
                self.refused(NoBook, function, many, thing, *call)

    def test_what_is_no_book(self):
        for many, thing in NO_PIECES + [(many, pieces) for many, pieces, paper in NO_BOOKS]:
            with self.subTest(many=many, thing=thing):
                self.all_refused(many, thing)

    def test_things_of_any_kind_as_a_book(self):
        for number, thing in enumerate(strange_things() + ["", "ab", 2, 3, (1, 2)]):
            with self.subTest(number=number):
                for many in (2, 3, 4):
                    self.all_refused(many, thing)

    def test_numbers_of_letters_of_any_kind(self):
        for number, thing in enumerate(NO_NUMBERS + strange_things()):
            with self.subTest(number=number):
                for book in (("a", "b"), ("a", "b", "c"), ("a", "b", "c", "d"), thing):
                    self.all_refused(thing, book)

    def test_books_of_other_numbers_of_letters(self):
        for many, book in BOOKS:
            for other in (2, 3, 4):
                if other != many:
                    with self.subTest(many=many, other=other, book=book):
                        self.all_refused(other, book)

    def test_what_is_handed_in_is_not_changed(self):
        for number, (thing, again) in enumerate(zip(strange_things(), strange_things())):
            with self.subTest(number=number):
                self.all_refused(2, thing)
                self.refused(NoPiece, word_of, 2, THREE, thing)
                self.refused(NoWord, piece_of, 2, THREE, thing)
                self.refused(NoLetters, led, 2, THREE, thing)
                self.refused(NoWord, back, 2, THREE, thing)
                self.refused(NoWord, from_word, 2, THREE, thing, 0)
                self.assertTrue(thing == again)


if __name__ == "__main__":
    unittest.main()
