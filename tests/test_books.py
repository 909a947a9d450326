import unittest

from piecebooks.books import cut, even_book, first_book, inner_of, is_book, shows_not, why_not
from piecebooks.errors import NoBook, NoLetters
from tests.examples import BOOKS, NO_BOOKS, NO_NUMBERS, NO_PIECES
from tests.things import (
    Refusals, all_texts, comb, nested, plain_pairs, plain_texts_apart, plainly_book, rising_tuples, strange_things,
    texts_up_to,
)


class IsBook(unittest.TestCase):
    def test_books(self):
        for many, book in BOOKS:
            with self.subTest(many=many, book=book):
                self.assertIs(is_book(many, book), True)

    def test_pieces_that_are_none(self):
        for many, pieces, paper in NO_BOOKS:
            with self.subTest(many=many, pieces=pieces):
                self.assertIs(is_book(many, pieces), False)

    def test_what_are_no_pieces(self):
        for many, thing in NO_PIECES:
            with self.subTest(many=many, thing=thing):
                self.assertIs(is_book(many, thing), False)

    def test_books_of_other_numbers_of_letters(self):
        for many, book in BOOKS:
            for other in (2, 3, 4):
                if other != many:
                    with self.subTest(many=many, other=other, book=book):
                        self.assertIs(is_book(other, book), False)

    def test_sizes_at_the_edges(self):
        self.assertEqual(len(comb(2, 32)), 32)
        self.assertIs(is_book(2, comb(2, 31)), True)
        self.assertIs(is_book(2, comb(2, 32)), True)
        self.assertIs(is_book(2, comb(2, 33)), False)

    def test_numbers_of_letters_at_the_edges(self):
        self.assertIs(is_book(1, ("a",)), False)
        self.assertIs(is_book(5, ("a", "b", "c", "d", "e")), False)
        self.assertIs(is_book(5, ("a", "b", "c", "d")), False)
        self.assertIs(is_book(True, ("a",)), False)

    def test_any_thing_is_taken_as_a_book(self):
        for many in (2, 3, 4):
            for number, thing in enumerate(strange_things() + ["", "ab", 2, 3, 4, (1, 2), (5, 2, 1)]):
                with self.subTest(many=many, number=number):
                    self.assertIs(is_book(many, thing), False)

    def test_any_thing_is_taken_as_a_number_of_letters(self):
        for number, thing in enumerate(NO_NUMBERS + strange_things()):
            with self.subTest(number=number):
                self.assertIs(is_book(thing, ("a", "b")), False)
                self.assertIs(is_book(thing, ("a", "b", "c", "d")), False)
                self.assertIs(is_book(thing, thing), False)

    def test_very_long_pieces(self):
        self.assertIs(is_book(2, ("a" * 100000, "b" * 100000)), False)
        self.assertEqual(why_not(2, ("a" * 100000, "b" * 100000)), "ab")


class MadeBooks(unittest.TestCase):
    def test_first_book(self):
        self.assertEqual(first_book(2), ("a", "b"))
        self.assertEqual(first_book(3), ("a", "b", "c"))
        self.assertEqual(first_book(4), ("a", "b", "c", "d"))

    def test_even_book_of_one_letter_is_the_first_one(self):
        for many in (2, 3, 4):
            self.assertEqual(even_book(many, 1), first_book(many))

    def test_even_book(self):
        self.assertEqual(even_book(2, 2), ("aa", "ab", "ba", "bb"))
        self.assertEqual(even_book(3, 2), ("aa", "ab", "ac", "ba", "bb", "bc", "ca", "cb", "cc"))
        for many, longest in ((2, 5), (3, 3), (4, 2)):
            for length in range(1, longest + 1):
                book = even_book(many, length)
                with self.subTest(many=many, length=length):
                    self.assertEqual(book, tuple(all_texts(many, length)))
                    self.assertEqual(len(book), many ** length)
                    self.assertIs(is_book(many, book), True)
                    self.assertIs(type(book), tuple)

    def test_even_book_refuses_no_length(self):
        self.assertEqual(even_book(2, 6), tuple(all_texts(2, 6)))
        self.assertEqual(even_book(4, 3), tuple(all_texts(4, 3)))


class WhyNot(unittest.TestCase, Refusals):
    def test_books(self):
        for many, book in BOOKS:
            with self.subTest(many=many, book=book):
                self.assertIsNone(why_not(many, book))

    def test_pieces_that_are_no_book(self):
        for many, pieces, paper in NO_BOOKS:
            with self.subTest(many=many, pieces=pieces):
                told = why_not(many, pieces)
                self.assertEqual(told, paper)
                self.assertIs(type(told), type(paper))

    def test_sizes_at_the_edges(self):
        self.assertEqual(why_not(2, ("a",)), "b")
        self.assertIsNone(why_not(2, comb(2, 32)))
        self.assertEqual(why_not(2, comb(2, 33)[:32]), comb(2, 33)[32])
        self.refused(NoBook, why_not, 2, comb(2, 33))
        self.refused(NoBook, why_not, 2, ())

    def test_what_are_no_pieces(self):
        for many, thing in NO_PIECES:
            with self.subTest(many=many, thing=thing):
                self.refused(NoBook, why_not, many, thing)

    def test_things_of_any_kind(self):
        for number, thing in enumerate(strange_things() + ["", "ab", 2, 3, (1, 2)]):
            with self.subTest(number=number):
                for many in (2, 3, 4):
                    self.refused(NoBook, why_not, many, thing)

    def test_numbers_of_letters_of_any_kind(self):
        for number, thing in enumerate(NO_NUMBERS + strange_things()):
            with self.subTest(number=number):
                for pieces in (("a",), ("a", "b"), ("a", "b", "c", "d"), ("a", "ab"), None, thing):
                    self.refused(NoBook, why_not, thing, pieces)


class ShowsNot(unittest.TestCase, Refusals):
    def test_papers_that_why_not_tells(self):
        for many, pieces, paper in NO_BOOKS:
            with self.subTest(many=many, pieces=pieces):
                self.assertIs(shows_not(many, pieces, paper), True)

    def test_papers_that_are_not_the_first(self):
        for many, pieces, paper in (
            (2, ("a", "aa", "ab"), ("a", "ab")),
            (2, ("a", "ab", "aba"), ("a", "aba")),
            (2, ("a", "ab", "aba"), ("ab", "aba")),
            (2, ("a", "ab", "b", "ba"), ("b", "ba")),
            (2, ("a", "aa"), "b"),
            (2, ("a", "aa"), "bab"),
            (2, ("a",), "bb"),
            (2, ("a",), "b" * 1000),
            (2, ("aa", "ba"), "bb"),
            (2, ("aaa", "b"), "aab"),
            (2, ("aaa", "b"), "aba"),
            (3, ("a", "b"), "cab"),
            (3, ("a", "ac", "b"), "c"),
            (4, ("a", "b"), "d"),
            (4, ("a", "b"), "cd"),
        ):
            with self.subTest(many=many, pieces=pieces, paper=paper):
                self.assertIs(shows_not(many, pieces, paper), True)

    def test_what_shows_nothing(self):
        for many, pieces, paper in (
            (2, ("a", "ab"), ("ab", "a")),
            (2, ("a", "ab"), ("a", "a")),
            (2, ("a", "ab"), ("ab", "ab")),
            (2, ("a", "ab"), ["a", "ab"]),
            (2, ("a", "ab"), ("a", "ab", "ab")),
            (2, ("a", "ab", "abb"), ("a", "ab", "abb")),
            (2, ("a", "ab"), ("a",)),
            (2, ("a", "ab"), (("a", "ab"),)),
            (2, ("a", "ab"), ("a", "aa")),
            (2, ("a", "ab"), ("", "a")),
            (2, ("aa", "aab"), ("a", "aa")),
            (2, ("a", "b"), ("a", "b")),
            (2, ("a", "ab", "b"), ("a", "b")),
            (2, ("a", "ab"), ("a", ["ab"])),
            (2, ("a", "ab"), (["a"], "ab")),
            (2, ("a",), ""),
            (2, ("a",), "a"),
            (2, ("a",), "ab"),
            (2, ("ab",), "a"),
            (2, ("ab",), "aba"),
            (2, ("a",), "c"),
            (2, ("a",), "B"),
            (2, ("a",), "b "),
            (2, ("a",), ("b",)),
            (2, ("a",), ["b"]),
            (3, ("a",), "d"),
            (3, ("a",), "bd"),
            (4, ("a",), "e"),
        ):
            with self.subTest(many=many, pieces=pieces, paper=paper):
                self.assertIs(shows_not(many, pieces, paper), False)

    def test_nothing_shows_that_a_book_is_none(self):
        for many, book in BOOKS:
            papers = [""] + texts_up_to(many, 3) + [(one, other) for one in book for other in book]
            for paper in papers + ["c" * 40, "e", "z", "a" * 100]:
                if shows_not(many, book, paper) is not False:
                    self.fail(f"{paper} against {book}")

    def test_papers_of_any_kind(self):
        for many, pieces in ((2, ("a", "b")), (2, ("a", "ab")), (3, ("a", "b")), (4, ("a", "b", "c"))):
            for number, paper in enumerate(strange_things() + [2, 3, (1, 2), nested(tuple, ("a", "ab"), 10)]):
                with self.subTest(many=many, pieces=pieces, number=number):
                    self.assertIs(shows_not(many, pieces, paper), False)

    def test_what_are_no_pieces(self):
        for many, thing in NO_PIECES:
            for paper in ("b", ("a", "ab"), None):
                with self.subTest(many=many, thing=thing, paper=paper):
                    self.refused(NoBook, shows_not, many, thing, paper)

    def test_things_of_any_kind(self):
        for number, thing in enumerate(strange_things() + ["", "ab", 2, 3, (1, 2)]):
            with self.subTest(number=number):
                for many in (2, 3, 4):
                    self.refused(NoBook, shows_not, many, thing, "b")
                    self.refused(NoBook, shows_not, many, thing, thing)

    def test_numbers_of_letters_of_any_kind(self):
        for number, thing in enumerate(NO_NUMBERS + strange_things()):
            with self.subTest(number=number):
                self.refused(NoBook, shows_not, thing, ("a",), "b")
                self.refused(NoBook, shows_not, thing, ("a", "ab"), ("a", "ab"))


class BookOrPaper(unittest.TestCase):
    """Each rising tuple is a book, or there is a paper, and not both: against a slow, plain judgement."""

    TEXTS = [
        (2, texts_up_to(2, 3)),
        (3, texts_up_to(3, 2)),
        (4, texts_up_to(4, 1) + ["aa", "ab", "ac", "ad", "da", "db", "dc", "dd"]),
        (2, ["a", "aa", "ab", "aba", "abb", "abba", "abbb", "b", "ba", "baab", "bb"]),
    ]

    def first_paper(self, many, pieces):
        longest = max(len(piece) for piece in pieces)
        papers = plain_pairs(pieces) or plain_texts_apart(many, pieces, longest)
        return papers[0] if papers else None

    def test_all(self):
        for many, texts in self.TEXTS:
            for pieces in rising_tuples(texts):
                paper = self.first_paper(many, pieces)
                if (
                    is_book(many, pieces) is not plainly_book(many, pieces)
                    or is_book(many, pieces) is not (paper is None)
                    or why_not(many, pieces) != paper
                ):
                    self.fail(f"of {many} letters, {pieces}")

    def test_all_papers_of_small_ones(self):
        for many, texts in ((2, texts_up_to(2, 2)), (3, texts_up_to(3, 1) + ["aa", "ca"])):
            tried = [""] + texts_up_to(many, 3)
            tried_pairs = [(one, other) for one in texts for other in texts]
            for pieces in rising_tuples(texts):
                right = plain_pairs(pieces) + plain_texts_apart(many, pieces, 3)
                for paper in tried + tried_pairs:
                    if shows_not(many, pieces, paper) is not (paper in right):
                        self.fail(f"of {many} letters, {pieces} with {paper}")


class InnerOf(unittest.TestCase):
    def test_plain_ones(self):
        self.assertEqual(inner_of(("a", "b")), [""])
        self.assertEqual(inner_of(("aa", "ab", "b")), ["", "a"])
        self.assertEqual(inner_of(("aaa", "aab", "ab", "ba", "bb")), ["", "a", "aa", "b"])
        self.assertEqual(inner_of(("a", "ba", "bb", "bc", "c")), ["", "b"])
        self.assertEqual(inner_of(("a", "b", "c", "da", "db", "dc", "dd")), ["", "d"])
        self.assertEqual(inner_of(even_book(2, 3)), ["", "a", "aa", "ab", "b", "ba", "bb"])

    def test_against_all_beginnings(self):
        for many, book in BOOKS:
            with self.subTest(many=many, book=book):
                beginnings = {piece[:end] for piece in book for end in range(len(piece))}
                told = inner_of(book)
                self.assertEqual(told, sorted(beginnings))
                self.assertIs(type(told), list)
                self.assertEqual(len(book), 1 + (many - 1) * len(told))

    def test_told_lists_are_new(self):
        for many, book in BOOKS:
            told = inner_of(book)
            kept = list(told)
            told.append("z")
            told.reverse()
            with self.subTest(many=many, book=book):
                self.assertEqual(inner_of(book), kept)


class Cut(unittest.TestCase, Refusals):
    def test_plain_ones(self):
        self.assertEqual(cut(2, ("aa", "ab", "b"), "aabab"), (["aa", "b", "ab"], ""))
        self.assertEqual(cut(2, ("aa", "ab", "b"), "aaba"), (["aa", "b"], "a"))
        self.assertEqual(cut(2, ("a", "b"), "abba"), (["a", "b", "b", "a"], ""))
        self.assertEqual(cut(3, ("a", "ba", "bb", "bc", "c"), "cabcb"), (["c", "a", "bc"], "b"))
        self.assertEqual(cut(4, ("a", "b", "c", "da", "db", "dc", "dd"), "ddd"), (["dd"], "d"))

    def test_nothing_is_left(self):
        self.assertEqual(cut(2, even_book(2, 5), "abbabbbbaa"), (["abbab", "bbbaa"], ""))
        self.assertEqual(cut(3, ("a", "b", "c"), "cab"), (["c", "a", "b"], ""))

    def test_all_is_left(self):
        self.assertEqual(cut(2, ("aa", "ab", "b"), "a"), ([], "a"))
        self.assertEqual(cut(2, even_book(2, 5), "abba"), ([], "abba"))
        self.assertEqual(cut(2, comb(2, 32), "a" * 30), ([], "a" * 30))
        self.assertEqual(cut(4, even_book(4, 2), "d"), ([], "d"))

    def test_the_empty_text(self):
        for many, book in BOOKS:
            with self.subTest(many=many, book=book):
                self.assertEqual(cut(many, book, ""), ([], ""))

    def test_what_is_told(self):
        for many, book in BOOKS:
            for text in texts_up_to(many, 4) + ["abbaab" * 10, "b" * 100, "ab" * 31]:
                told = cut(many, book, text)
                with self.subTest(many=many, book=book, text=text):
                    self.assertIs(type(told), tuple)
                    self.assertEqual([type(part) for part in told], [list, str])
                    pieces, left = told
                    self.assertEqual("".join(pieces) + left, text)
                    self.assertTrue(all(piece in book for piece in pieces))
                    self.assertNotIn(left, book)
                    self.assertTrue(any(piece.startswith(left) for piece in book))

    def test_told_lists_are_new(self):
        told = cut(2, ("aa", "ab", "b"), "aaba")
        told[0].append("z")
        told[0].reverse()
        self.assertEqual(cut(2, ("aa", "ab", "b"), "aaba"), (["aa", "b"], "a"))
        empty = cut(2, ("aa", "ab", "b"), "")
        empty[0].append("z")
        self.assertEqual(cut(2, ("aa", "ab", "b"), ""), ([], ""))

    def test_what_is_no_book(self):
        for many, pieces, paper in NO_BOOKS:
            with self.subTest(many=many, pieces=pieces):
                self.refused(NoBook, cut, many, pieces, "ab")
                self.refused(NoBook, cut, many, pieces, "")
        for many, thing in NO_PIECES:
            with self.subTest(many=many, thing=thing):
                self.refused(NoBook, cut, many, thing, "ab")

    def test_things_of_any_kind_as_a_book(self):
        for number, thing in enumerate(strange_things() + ["", "ab", 2, 3, (1, 2)]):
            with self.subTest(number=number):
                for many in (2, 3, 4):
                    self.refused(NoBook, cut, many, thing, "ab")

    def test_numbers_of_letters_of_any_kind(self):
        for number, thing in enumerate(NO_NUMBERS + strange_things()):
            with self.subTest(number=number):
                for book in (("a", "b"), ("a", "b", "c"), ("a", "b", "c", "d"), thing):
                    self.refused(NoBook, cut, thing, book, "ab")

    def test_books_of_other_numbers_of_letters(self):
        self.refused(NoBook, cut, 3, ("a", "b"), "ab")
        self.refused(NoBook, cut, 2, ("a", "b", "c"), "ab")
        self.refused(NoBook, cut, 4, ("a", "b", "c"), "ab")

    def test_what_is_no_text_of_letters(self):
        things = strange_things() + [2, (1, 2), ("a",), ("a", "b"), ["a"], nested(list, "ab", 10)]
        for many, book in ((2, ("aa", "ab", "b")), (3, ("a", "b", "c")), (4, ("a", "b", "c", "d"))):
            for number, thing in enumerate(things):
                with self.subTest(many=many, number=number):
                    self.refused(NoLetters, cut, many, book, thing)
        self.refused(NoLetters, cut, 2, ("a", "b"), "c")
        self.refused(NoLetters, cut, 2, ("a", "b"), "abc")
        self.refused(NoLetters, cut, 3, ("a", "b", "c"), "dabc")
        self.refused(NoLetters, cut, 4, ("a", "b", "c", "d"), "abcde")

    def test_the_book_is_refused_first(self):
        for text in ("z", "c", None, 7, ["a"]):
            with self.subTest(text=text):
                self.refused(NoBook, cut, 5, ("a", "b"), text)
                self.refused(NoBook, cut, True, ("a", "b"), text)
                self.refused(NoBook, cut, 2, ("a", "ab"), text)
                self.refused(NoBook, cut, 2, None, text)


class HandedIn(unittest.TestCase, Refusals):
    def test_what_is_handed_in_is_not_changed(self):
        for number, (thing, again) in enumerate(zip(strange_things(), strange_things())):
            with self.subTest(number=number):
                is_book(2, thing)
                is_book(thing, thing)
                shows_not(2, ("a", "ab"), thing)
                self.refused(NoBook, why_not, 2, thing)
                self.refused(NoBook, shows_not, 2, thing, thing)
                self.refused(NoBook, cut, 2, thing, thing)
                self.refused(NoLetters, cut, 2, ("a", "b"), thing)
                self.assertTrue(thing == again)


if __name__ == "__main__":
    unittest.main()
