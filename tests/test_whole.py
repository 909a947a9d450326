"""What the document promises over the whole program, and its interface."""

import importlib
import inspect
import unittest
from fractions import Fraction

from piecebooks.best import all_books, better, greatest_mean, is_best
from piecebooks.between import both, is_finer, join, part, shared, steps_to
from piecebooks.books import cut, inner_of, is_book, shows_not, why_not
from piecebooks.coders import Coder, Reader
from piecebooks.costs import best_for, fewest_words, words_for
from piecebooks.errors import NoText, NoWord, PieceError
from piecebooks.lengths import length_shares, longer_share
from piecebooks.means import greatest_piece, least_inner, mean
from piecebooks.sources import added, is_less, share
from piecebooks.spoiling import flipped, risky, unlike
from piecebooks.streams import Stream
from piecebooks.texts import book_text, read_book, read_source, source_text
from piecebooks.words import back, from_word, led, word_of
from tests.examples import SMALL
from tests.things import Refusals, drawn_books, drawn_sources, drawn_texts, rising_tuples, texts_up_to

FUNCTIONS = {
    "sources": {"is_source": 1, "is_less": 2, "share": 2, "added": 2},
    "books": {"is_book": 2, "shows_not": 3, "why_not": 2, "inner_of": 1, "first_book": 1, "even_book": 2, "cut": 3},
    "means": {"mean": 2, "bits_for": 1, "gain": 2, "least_inner": 2, "greatest_piece": 2},
    "best": {"best_book": 2, "greatest_mean": 2, "better": 2, "all_books": 2, "how_many": 2, "is_best": 2},
    "words": {"word_of": 3, "piece_of": 3, "led": 3, "back": 3, "from_word": 4},
    "between": {"part": 3, "heads": 2, "join": 3, "both": 3, "shared": 3, "steps_to": 3, "is_finer": 3},
    "coders": {"learnt": 2},
    "texts": {"source_text": 1, "book_text": 2, "read_source": 1, "read_book": 2},
    "lengths": {"length_shares": 2, "longer_share": 3, "second_mean": 2},
    "costs": {"words_for": 3, "fewest_words": 3, "best_for": 3, "dearest": 3},
    "spoiling": {"flipped": 4, "risky": 2, "unlike": 4},
}
METHODS = {
    ("coders", "Coder"): {"source": 0, "book": 0, "left": 0, "tell": 1},
    ("coders", "Reader"): {"source": 0, "book": 0, "hear": 1},
    ("streams", "Stream"): {"tell": 1, "signs": 0, "left": 0, "text": 0, "pieces": 0, "back": 0, "forth": 0, "steps": 0,
                            "twin": 0},
}
ERRORS = ("NoSource", "NoBook", "NoPiece", "NoLetters", "NoWord", "NoSize", "NoText", "NoStep")


def sources_and_books():
    found = []
    for number, source in enumerate(drawn_sources(60)):
        found.append((source, drawn_books(len(source), 31)[number % 31]))
    return found


def together(fractions):
    total = (0, 1)
    for fraction in fractions:
        total = added(total, fraction)
    return total


def times(fraction, number):
    return (fraction[0] * number, fraction[1])


class Interface(unittest.TestCase):
    def test_functions(self):
        for name, functions in FUNCTIONS.items():
            module = importlib.import_module("piecebooks." + name)
            for function, count in functions.items():
                with self.subTest(module=name, function=function):
                    self.assertEqual(len(inspect.signature(getattr(module, function)).parameters), count)
                    self.assertEqual(getattr(module, function).__module__, "piecebooks." + name)

    def test_classes(self):
        for (name, kind), methods in METHODS.items():
            found = getattr(importlib.import_module("piecebooks." + name), kind)
            self.assertEqual(len(inspect.signature(found).parameters), 2)
            for method, count in methods.items():
                with self.subTest(kind=kind, method=method):
                    self.assertEqual(len(inspect.signature(getattr(found, method)).parameters), count + 1)

    def test_errors(self):
        errors = importlib.import_module("piecebooks.errors")
        self.assertEqual(PieceError.__bases__, (ValueError,))
        for name in ERRORS:
            with self.subTest(name=name):
                self.assertEqual(getattr(errors, name).__bases__, (PieceError,))


class Whole(unittest.TestCase, Refusals):
    def test_a_book_or_a_paper_and_not_both(self):
        papers = texts_up_to(2, 4)
        for pieces in rising_tuples(texts_up_to(2, 2) + ["aba", "abb"]):
            paper = why_not(2, pieces)
            pairs = [(one, other) for one in pieces for other in pieces]
            with self.subTest(pieces=pieces):
                self.assertEqual(is_book(2, pieces), paper is None)
                self.assertEqual(any(shows_not(2, pieces, thing) for thing in papers + pairs), not is_book(2, pieces))
                if paper is not None:
                    self.assertIs(shows_not(2, pieces, paper), True)

    def test_b_shares_and_means(self):
        for source, book in sources_and_books():
            with self.subTest(source=source, book=book):
                self.assertEqual(together(share(source, piece) for piece in book), (1, 1))
                self.assertEqual(together(share(source, text) for text in inner_of(book)), mean(source, book))
                self.assertEqual(together(times(share(source, piece), len(piece)) for piece in book), mean(source, book))

    def test_c_best_or_a_better_one(self):
        for source, book in sources_and_books():
            best = not is_less(least_inner(source, book), share(source, greatest_piece(source, book)))
            with self.subTest(source=source, book=book):
                self.assertIs(is_best(source, book), best)
                self.assertEqual(mean(source, book) == greatest_mean(source, len(book)), best)
                found = better(source, book)
                self.assertEqual(found is None, best)
                if found is not None:
                    self.assertEqual(len(found), len(book))
                    self.assertTrue(is_less(mean(source, book), mean(source, found)))
                    self.assertIs(is_best(source, found), True)

    def test_d_words_lead_back_and_a_reader_hears(self):
        for source, book in sources_and_books():
            many = len(source)
            text = drawn_texts(many, 20, 50)[len(book) % 20]
            signs, left = led(many, book, text)
            pieces = cut(many, book, text)[0]
            with self.subTest(source=source, book=book, text=text):
                self.assertEqual(back(many, book, signs) + left, text)
                for number in range(len(pieces) + 1):
                    self.assertEqual(from_word(many, book, signs, number), "".join(pieces[number:]))
                coder = Coder(source, len(book))
                reader = Reader(source, len(book))
                heard = [reader.hear(word) for word in [coder.tell(letter) for letter in text] if word != ""]
                self.assertEqual("".join(heard) + coder.left(), text)
                self.assertEqual((reader.source(), reader.book()), (coder.source(), coder.book()))

    def test_e_finer_books_and_the_steps_between(self):
        for source, one in sources_and_books():
            many = len(source)
            for other in drawn_books(many, 31)[3:30:9]:
                below = shared(many, one, other)
                try:
                    above = both(many, one, other)
                except PieceError:
                    above = None
                with self.subTest(source=source, one=one, other=other):
                    for book in (one, other):
                        self.assertTrue(is_finer(many, book, below))
                        self.assertFalse(is_less(mean(source, book), mean(source, below)))
                        self.assertTrue(above is None or is_finer(many, above, book))
                        self.assertFalse(above is not None and is_less(mean(source, above), mean(source, book)))
                    book = one
                    for kind, text in steps_to(many, one, other):
                        book = join(many, book, text) if kind == "join" else part(many, book, text)
                    self.assertEqual(book, other)

    def test_f_texts_read_back(self):
        for source, book in sources_and_books():
            many = len(source)
            with self.subTest(source=source, book=book):
                self.assertEqual(read_source(source_text(source)), source)
                self.assertEqual(read_book(many, book_text(many, book)), book)
                self.refused(NoText, read_source, book_text(many, book))
                self.refused(NoText, read_book, many, source_text(source))

    def test_g_shares_by_length(self):
        for source, book in sources_and_books():
            rows = length_shares(source, book)
            longest = max(len(piece) for piece in book)
            with self.subTest(source=source, book=book):
                self.assertEqual(together(part for length, part in rows), (1, 1))
                self.assertEqual(together(times(part, length) for length, part in rows), mean(source, book))
                self.assertEqual(together(longer_share(source, book, length) for length in range(longest)),
                                 mean(source, book))

    def test_h_no_book_takes_fewer_words(self):
        for many, size in SMALL.items():
            books = all_books(many, size)
            for text in drawn_texts(many, 6, 30):
                fewest = fewest_words(many, size, text)
                with self.subTest(many=many, size=size, text=text):
                    self.assertEqual(words_for(many, best_for(many, size, text), text), fewest)
                    self.assertTrue(all(words_for(many, book, text) >= fewest for book in books))

    def test_i_one_spoilt_sign(self):
        for source, book in sources_and_books()[::3]:
            many = len(source)
            text = drawn_texts(many, 20, 30)[len(book) % 20]
            signs = led(many, book, text)[0]
            pieces = cut(many, book, text)[0]
            bits = len(word_of(many, book, book[0]))
            for place in range(len(signs)):
                number = place // bits
                word = signs[number * bits:number * bits + bits]
                with self.subTest(source=source, book=book, text=text, place=place):
                    if (word, place % bits) in risky(many, book):
                        self.refused(NoWord, flipped, many, book, signs, place)
                    else:
                        others = ["".join(pieces[:number] + [other] + pieces[number + 1:]) for other in book
                                  if unlike(many, book, pieces[number], other) == 1]
                        self.assertIn(flipped(many, book, signs, place), others)

    def test_k_streams(self):
        for source, book in sources_and_books():
            many = len(source)
            text = drawn_texts(many, 20, 40)[len(book) % 20]
            stream = Stream(many, book)
            for start in range(0, len(text), 3):
                stream.tell(text[start:start + 3])
            twin = stream.twin()
            with self.subTest(source=source, book=book, text=text):
                self.assertEqual((stream.signs(), stream.left()), led(many, book, text))
                for step in range(stream.steps()[0]):
                    stream.back()
                    end = len(text[:3 * stream.steps()[0]])
                    self.assertEqual((stream.signs(), stream.left()), led(many, book, text[:end]))
                self.assertEqual((twin.text(), twin.signs(), twin.left()), (text,) + led(many, book, text))
                while stream.steps()[1] > 0:
                    stream.forth()
                self.assertEqual((stream.text(), stream.steps()), (twin.text(), twin.steps()))


class Plain(unittest.TestCase):
    def test_fractions_are_in_lowest_terms(self):
        for source, book in sources_and_books():
            told = [mean(source, book), longer_share(source, book, 2)] + [part for length, part in length_shares(source, book)]
            for fraction in told:
                with self.subTest(source=source, book=book):
                    self.assertIs(type(fraction), tuple)
                    self.assertEqual(fraction, (Fraction(*fraction).numerator, Fraction(*fraction).denominator))


if __name__ == "__main__":
    unittest.main()
