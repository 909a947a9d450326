import unittest

from piecebooks.best import all_books
from piecebooks.books import even_book, first_book
from piecebooks.errors import NoBook, NoSource, NoText
from piecebooks.texts import book_text, read_book, read_source, source_text
from tests.examples import NO_NUMBERS, NO_SOURCES, SMALL, SOURCES, all_the_books, no_books
from tests.things import Refusals, comb, drawn_sources, strange_things

SIGNS = " \nabcde0123456789AZ~!-+.,\t\r\u00e9"


def of_lines(lines):
    return "".join(line + "\n" for line in lines)


def changed(text, signs):
    """The text with each sign left out, put in twice, made another one, with one put in anywhere, with lines changed."""
    found = []
    for place in range(len(text)):
        found.append(text[:place] + text[place + 1:])
        found.append(text[:place + 1] + text[place:])
        found.extend(text[:place] + sign + text[place + 1:] for sign in signs)
    for place in range(len(text) + 1):
        found.extend(text[:place] + sign + text[place:] for sign in signs)
    lines = text.split("\n")[:-1]
    for place in range(len(lines)):
        found.append(of_lines(lines[:place] + lines[place + 1:]))
        found.append(of_lines(lines[:place + 1] + lines[place:]))
        for other in range(place):
            some = list(lines)
            some[place], some[other] = some[other], some[place]
            found.append(of_lines(some))
    found.extend([text + text, text.strip(), text.upper(), text.replace(" ", ""), text.replace("\n", " "),
                  text.replace(" ", "\n"), text.replace("\n", "\r\n"), text.replace(" ", "  "), text[::-1]])
    return [other for other in found if other != text]


def plain_source(text):
    """The source of which the text is the writing, or None, found sign by sign."""
    if not text.endswith("\n"):
        return None
    words = text[:-1].split(" ")
    if not 2 <= len(words) <= 4:
        return None
    weights = []
    for letter, word in zip("abcd", words):
        digits = word[1:]
        if word[:1] != letter or not 1 <= len(digits) <= 2 or digits[0] not in "123456789":
            return None
        if digits[-1] not in "0123456789":
            return None
        weights.append(int(digits))
    return tuple(weights)


class SourceText(unittest.TestCase, Refusals):
    def test_plain_ones(self):
        self.assertEqual(source_text((5, 2)), "a5 b2\n")
        self.assertEqual(source_text((5, 2, 1)), "a5 b2 c1\n")
        self.assertEqual(source_text((1, 99, 10, 9)), "a1 b99 c10 d9\n")

    def test_what_is_no_source(self):
        for number, thing in enumerate(NO_SOURCES + strange_things()):
            with self.subTest(number=number):
                self.refused(NoSource, source_text, thing)


class BookText(unittest.TestCase, Refusals):
    def test_plain_ones(self):
        self.assertEqual(book_text(2, ("a", "b")), "0 a\n1 b\n")
        self.assertEqual(book_text(2, ("aa", "ab", "b")), "00 aa\n01 ab\n10 b\n")
        self.assertEqual(book_text(3, ("a", "ba", "bb", "bc", "c")), "000 a\n001 ba\n010 bb\n011 bc\n100 c\n")
        self.assertEqual(book_text(4, ("a", "b", "c", "d")), "00 a\n01 b\n10 c\n11 d\n")

    def test_2_pieces_and_32(self):
        lines = book_text(2, comb(2, 32)).split("\n")
        self.assertEqual(len(lines), 33)
        self.assertEqual(lines[0], "00000 " + "a" * 31)
        self.assertEqual(lines[1], "00001 " + "a" * 30 + "b")
        self.assertEqual(lines[31:], ["11111 b", ""])
        self.assertEqual(book_text(2, even_book(2, 5)).split("\n")[17], "10001 baaab")

    def test_what_is_no_book(self):
        for number, (many, thing) in enumerate(no_books()):
            with self.subTest(number=number):
                self.refused(NoBook, book_text, many, thing)


class ReadSource(unittest.TestCase, Refusals):
    def test_plain_ones(self):
        self.assertEqual(read_source("a5 b2\n"), (5, 2))
        self.assertEqual(read_source("a5 b2 c1\n"), (5, 2, 1))
        self.assertEqual(read_source("a1 b99 c10 d9\n"), (1, 99, 10, 9))

    def test_what_is_written_is_read_back(self):
        for source in SOURCES + drawn_sources(200) + [(weight, 100 - weight) for weight in range(1, 100)]:
            told = read_source(source_text(source))
            with self.subTest(source=source):
                self.assertEqual(told, source)
                self.assertIs(type(told), tuple)
                self.assertTrue(all(type(weight) is int for weight in told))

    def test_other_texts(self):
        for text in ("", "\n", " ", "a", "a5", "a5\n", "a5 b2", "a5 b2\n\n", "\na5 b2\n", " a5 b2\n", "a5 b2 \n", "a5  b2\n",
                     "a5 b2\n ", "a5\nb2\n", "a5\tb2\n", "a5 b2\r\n", "b5 a2\n", "a5 a2\n", "a5 c2\n", "b2\n", "b2 c1\n",
                     "a5 b2 d1\n", "a5 b2 c1 d1 e1\n", "a0 b1\n", "a1 b0\n", "a00 b1\n", "a05 b2\n", "a5 b02\n", "a005 b2\n",
                     "a100 b1\n", "a1 b100\n", "a+5 b2\n", "a-5 b2\n", "a5.0 b2\n", "a1_0 b2\n", "A5 B2\n", "5 2\n", "5a 2b\n",
                     "a5 b2 c\n", "a b\n", "a 5 b 2\n", "a5,b2\n", "a5 b2 c1 d\n", "a\u0665 b2\n", "a\u00b2 b2\n",
                     "a5\u00a0b2\n", "a5 b2\u2028", "a5b2\n", "a5 b2\n0 a\n1 b\n", "0 a\n1 b\n", "a" + "9" * 6000 + " b1\n"):
            with self.subTest(text=text[:40]):
                self.refused(NoText, read_source, text)

    def test_changed_texts(self):
        for source in [(5, 2), (9, 10), (99, 1), (5, 2, 1), (10, 20, 30), (1, 99, 10, 9), (11, 1, 1, 11)]:
            for text in changed(source_text(source), SIGNS):
                with self.subTest(source=source, text=text):
                    if plain_source(text) is None:
                        self.refused(NoText, read_source, text)
                    else:
                        self.assertEqual(read_source(text), plain_source(text))
                        self.assertEqual(source_text(read_source(text)), text)

    def test_a_leading_0(self):
        for source in SOURCES:
            words = source_text(source)[:-1].split(" ")
            for place, word in enumerate(words):
                for zeros in ("0", "00"):
                    text = " ".join(words[:place] + [word[0] + zeros + word[1:]] + words[place + 1:]) + "\n"
                    with self.subTest(text=text):
                        self.refused(NoText, read_source, text)

    def test_things_of_any_kind(self):
        for number, thing in enumerate(strange_things() + SOURCES + [2, ("a5 b2\n",), ["a5 b2\n"], ["a5", "b2"]]):
            with self.subTest(number=number):
                self.refused(NoText, read_source, thing)


class ReadBook(unittest.TestCase, Refusals):
    def test_plain_ones(self):
        self.assertEqual(read_book(2, "0 a\n1 b\n"), ("a", "b"))
        self.assertEqual(read_book(2, "00 aa\n01 ab\n10 b\n"), ("aa", "ab", "b"))
        self.assertEqual(read_book(3, "000 a\n001 ba\n010 bb\n011 bc\n100 c\n"), ("a", "ba", "bb", "bc", "c"))
        self.assertEqual(read_book(4, "00 a\n01 b\n10 c\n11 d\n"), ("a", "b", "c", "d"))

    def test_what_is_written_is_read_back(self):
        small = [(many, book) for many, size in SMALL.items() for book in all_books(many, size)]
        for many, book in all_the_books() + small:
            told = read_book(many, book_text(many, book))
            with self.subTest(many=many, book=book):
                self.assertEqual(told, book)
                self.assertIs(type(told), tuple)

    def test_of_another_number_of_letters(self):
        for many, book in all_the_books():
            for other in (2, 3, 4):
                if other != many:
                    with self.subTest(many=many, other=other, book=book):
                        self.refused(NoText, read_book, other, book_text(many, book))

    def test_other_texts(self):
        for text in ("", "\n", "\n\n", " ", "0", "0 ", "0 \n", "0 a", "0 a\n", "1 b\n", "0 a\n1 b", "0 a\n1 b\n\n",
                     "\n0 a\n1 b\n", "0 a\n\n1 b\n", "0  a\n1 b\n", " 0 a\n1 b\n", "0 a \n1 b\n", "0 a\n1 b \n", "0\ta\n1 b\n",
                     "0 a\r\n1 b\r\n", "1 a\n0 b\n", "0 b\n1 a\n", "1 b\n0 a\n", "00 a\n01 b\n", "0 a\n0 b\n", "0 a\n1 a\n",
                     "a\nb\n", "a 0\nb 1\n", "0a\n1b\n", "0 a\n1 ba\n", "0 a\n1 c\n", "0 A\n1 B\n", " a\n b\n", "a a\nb b\n",
                     "0 a 1 b\n", "00 a\n01 ab\n10 b\n", "0 aa\n1 b\n", "00 aa\n01 ab\n10 b\n11 \n", "00 aa\n01 ab\n10 b\n11\n",
                     "00 aa\n01 ab\n11 b\n", "000 aa\n001 ab\n010 b\n", "0 aa\n1 ab\n2 b\n", "00 aa\n10 b\n01 ab\n",
                     "00 aa\n01 ab\n10 ba\n11 bb", "0 a\n1 b\x0b", "0 a\u20281 b\n", "a5 b2\n"):
            with self.subTest(text=text):
                self.refused(NoText, read_book, 2, text)

    # One piece made another leaves texts that begin with none, or with two: so no change makes another book.
    def test_changed_texts(self):
        for many, book in [(2, ("a", "b")), (2, ("aa", "ab", "b")), (2, ("a", "baa", "bab", "bb")),
                           (3, ("a", "ba", "bb", "bc", "c")), (4, first_book(4)), (4, ("a", "ba", "bb", "bc", "bd", "c", "d"))]:
            for text in changed(book_text(many, book), SIGNS):
                with self.subTest(many=many, book=book, text=text):
                    self.refused(NoText, read_book, many, text)

    def test_changed_texts_of_great_books(self):
        for many, book in ((2, even_book(2, 5)), (2, comb(2, 32)), (3, even_book(3, 3)), (4, comb(4, 31))):
            for text in changed(book_text(many, book), "\n 1b")[::7]:
                with self.subTest(many=many, text=text):
                    self.refused(NoText, read_book, many, text)

    def test_pieces_that_are_no_book_or_too_many(self):
        self.refused(NoText, read_book, 2, "".join(f"{number:06b} {piece}\n" for number, piece in enumerate(comb(2, 33))))
        self.refused(NoText, read_book, 2, "".join(f"{number:06b} {piece}\n" for number, piece in enumerate(even_book(2, 6))))
        self.refused(NoText, read_book, 3, "00 a\n01 b\n")
        self.refused(NoText, read_book, 3, "0 a\n1 b\n")
        self.refused(NoText, read_book, 2, " a\n")
        self.refused(NoText, read_book, 2, "0 a\n")

    def test_things_of_any_kind(self):
        things = strange_things() + [2, ("a", "b"), ("0 a\n1 b\n",), ["0 a\n1 b\n"], ["0 a", "1 b"], ("0 a", "1 b")]
        for number, thing in enumerate(things):
            with self.subTest(number=number):
                for many in (2, 3, 4):
                    self.refused(NoText, read_book, many, thing)

    def test_of_other_numbers_of_letters_nothing_is_the_writing(self):
        for number, thing in enumerate(NO_NUMBERS):
            with self.subTest(number=number):
                for text in ("0 a\n1 b\n", "00 a\n01 b\n10 c\n11 d\n", "", "0 a\n", None):
                    self.refused(NoText, read_book, thing, text)

    def test_what_is_handed_in_is_not_changed(self):
        for number, (thing, again) in enumerate(zip(strange_things(), strange_things())):
            with self.subTest(number=number):
                self.refused(NoSource, source_text, thing)
                self.refused(NoBook, book_text, 2, thing)
                self.refused(NoText, read_source, thing)
                self.refused(NoText, read_book, 2, thing)
                self.assertTrue(thing == again)


if __name__ == "__main__":
    unittest.main()
