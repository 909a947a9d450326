import unittest

from piecebooks.between import both, heads, is_finer, join, part, shared, steps_to
from piecebooks.best import all_books
from piecebooks.books import even_book, first_book, is_book
from piecebooks.errors import NoBook, NoPiece
from piecebooks.means import mean
from tests.examples import BOOKS, FIVE, SEVEN, SMALL, SOURCES, THREE, all_the_books, no_books
from tests.things import (
    LETTERS, Refusals, comb, drawn_books, plain_inner, plain_mean, strange_things, texts_up_to,
)

# Sizes of which all books are held against one another.
PAIRED = {2: 5, 3: 7, 4: 10}


def small_pairs():
    for many, size in PAIRED.items():
        books = all_books(many, size)
        for one in books:
            for other in books:
                yield many, one, other


def great_pairs():
    for many in (2, 3, 4):
        books = drawn_books(many, 12)[3:] + [book for number, book in BOOKS if number == many]
        for one in books:
            for other in books:
                yield many, one, other


def book_of_inner(many, inner):
    """The book of which these are the proper beginnings."""
    return tuple(sorted(text + letter for text in inner for letter in LETTERS[:many] if text + letter not in inner))


def plainly_finer(one, other):
    return all(any(piece[:end] in other for end in range(1, len(piece) + 1)) for piece in one)


def next_books(many, book, books):
    """All of these books that one step leads to, by their proper beginnings alone."""
    inner = set(plain_inner(book))
    return [other for other in books if len(inner ^ set(plain_inner(other))) == 1]


def distances(many, start, books):
    """How many steps lead from the one to each of the books, found by going on step by step."""
    found = {start: 0}
    border = [start]
    while border:
        border = [other for book in border for other in next_books(many, book, books) if other not in found]
        for other in border:
            found.setdefault(other, min(found[book] for book in found if other in next_books(many, book, books)) + 1)
    return found


class Part(unittest.TestCase, Refusals):
    def test_plain_ones(self):
        self.assertEqual(part(2, ("a", "b"), "a"), ("aa", "ab", "b"))
        self.assertEqual(part(2, ("a", "b"), "b"), ("a", "ba", "bb"))
        self.assertEqual(part(2, THREE, "ab"), ("aa", "aba", "abb", "b"))
        self.assertEqual(part(3, ("a", "b", "c"), "b"), FIVE)
        self.assertEqual(part(3, FIVE, "c"), ("a", "ba", "bb", "bc", "ca", "cb", "cc"))
        self.assertEqual(part(4, first_book(4), "d"), SEVEN)

    def test_each_piece_gone_on_by_each_letter_in_its_stead(self):
        for many, book in all_the_books():
            if len(book) + many - 1 <= 32:
                for piece in book:
                    told = part(many, book, piece)
                    with self.subTest(many=many, book=book, piece=piece):
                        self.assertIs(type(told), tuple)
                        self.assertEqual(told, book_of_inner(many, plain_inner(book) + [piece]))
                        self.assertTrue(is_book(many, told))

    def test_to_32_pieces_and_to_more(self):
        for many, most in ((2, 31), (3, 29), (4, 28)):
            greatest = comb(many, most)
            told = part(many, greatest, greatest[-1])
            with self.subTest(many=many):
                self.assertEqual(len(greatest), most)
                self.assertEqual(len(told), most + many - 1)
                for piece in told:
                    self.refused(NoBook, part, many, told, piece)
        self.assertEqual(len(part(2, comb(2, 31), "b")), 32)
        self.refused(NoBook, part, 2, even_book(2, 5), "aaaaa")

    def test_what_is_no_piece(self):
        for thing in ("", "a", "ba", "aaa", "bb", "c", ("b",), ["b"], THREE, 0, "00"):
            with self.subTest(thing=thing):
                self.refused(NoPiece, part, 2, THREE, thing)
        for number, thing in enumerate(strange_things()):
            with self.subTest(number=number):
                for many, book in BOOKS:
                    self.refused(NoPiece, part, many, book, thing)

    def test_no_piece_of_a_book_that_can_t_be_parted(self):
        self.refused(NoPiece, part, 2, even_book(2, 5), "aaaa")
        self.refused(NoPiece, part, 2, even_book(2, 5), None)
        self.refused(NoPiece, part, 3, comb(3, 31), "")
        self.refused(NoPiece, part, 4, comb(4, 31), "e")


class Heads(unittest.TestCase):
    def test_plain_ones(self):
        self.assertEqual(heads(2, THREE), ["a"])
        self.assertEqual(heads(2, ("aa", "ab", "ba", "bb")), ["a", "b"])
        self.assertEqual(heads(2, ("aaa", "aab", "ab", "ba", "bb")), ["aa", "b"])
        self.assertEqual(heads(2, ("aa", "aba", "abb", "b")), ["ab"])
        self.assertEqual(heads(3, FIVE), ["b"])
        self.assertEqual(heads(3, ("aa", "ab", "ac", "b", "ca", "cb", "cca", "ccb", "ccc")), ["a", "cc"])
        self.assertEqual(heads(4, SEVEN), ["d"])
        self.assertEqual(heads(4, even_book(4, 2)), ["a", "b", "c", "d"])

    def test_the_empty_text_is_none(self):
        for many in (2, 3, 4):
            with self.subTest(many=many):
                self.assertEqual(heads(many, first_book(many)), [])

    def test_rising_and_all(self):
        for many, book in all_the_books():
            texts = [text for text in plain_inner(book) if text]
            told = heads(many, book)
            with self.subTest(many=many, book=book):
                self.assertIs(type(told), list)
                self.assertEqual(told, [text for text in texts if all(text + letter in book for letter in LETTERS[:many])])
                self.assertEqual(told == [], book == first_book(many))

    def test_told_lists_are_new(self):
        told = heads(2, even_book(2, 2))
        told.reverse()
        told.append("z")
        self.assertEqual(heads(2, even_book(2, 2)), ["a", "b"])
        told = heads(3, first_book(3))
        told.append("")
        self.assertEqual(heads(3, first_book(3)), [])


class Join(unittest.TestCase, Refusals):
    def test_plain_ones(self):
        self.assertEqual(join(2, THREE, "a"), ("a", "b"))
        self.assertEqual(join(2, ("aa", "ab", "ba", "bb"), "b"), THREE)
        self.assertEqual(join(2, ("aaa", "aab", "ab", "b"), "aa"), THREE)
        self.assertEqual(join(3, FIVE, "b"), ("a", "b", "c"))
        self.assertEqual(join(4, SEVEN, "d"), ("a", "b", "c", "d"))
        self.assertEqual(len(join(2, even_book(2, 5), "bbbb")), 31)

    def test_undoes_part_and_is_undone_by_it(self):
        for many, book in all_the_books():
            for head in heads(many, book):
                less = join(many, book, head)
                with self.subTest(many=many, book=book, head=head):
                    self.assertIs(type(less), tuple)
                    self.assertEqual(less, book_of_inner(many, [text for text in plain_inner(book) if text != head]))
                    self.assertEqual(part(many, less, head), book)
            if len(book) + many - 1 <= 32:
                for piece in book:
                    with self.subTest(many=many, book=book, piece=piece):
                        self.assertEqual(join(many, part(many, book, piece), piece), book)

    def test_what_begins_pieces_and_is_no_head(self):
        self.refused(NoPiece, join, 2, ("aaa", "aab", "ab", "b"), "a")
        self.refused(NoPiece, join, 2, ("aa", "aba", "abb", "b"), "a")
        self.refused(NoPiece, join, 3, ("aa", "ab", "ac", "b", "ca", "cb", "cca", "ccb", "ccc"), "c")
        for many, book in all_the_books():
            told = heads(many, book)
            for text in plain_inner(book) + list(book):
                if text not in told:
                    with self.subTest(many=many, book=book, text=text):
                        self.refused(NoPiece, join, many, book, text)

    def test_a_piece_and_the_empty_text(self):
        for many in (2, 3, 4):
            for text in texts_up_to(many, 2) + [""]:
                with self.subTest(many=many, text=text):
                    self.refused(NoPiece, join, many, first_book(many), text)
        self.refused(NoPiece, join, 2, THREE, "b")
        self.refused(NoPiece, join, 2, THREE, "aa")
        self.refused(NoPiece, join, 2, THREE, "")
        self.refused(NoPiece, join, 2, THREE, "aab")
        self.refused(NoPiece, join, 2, THREE, "c")

    def test_things_of_any_kind(self):
        for number, thing in enumerate(strange_things() + [2, ("a",), ["a"], ("aa", "ab"), THREE]):
            with self.subTest(number=number):
                for many, book in ((2, THREE), (3, FIVE), (4, SEVEN), (2, even_book(2, 5)), (3, first_book(3))):
                    self.refused(NoPiece, join, many, book, thing)


class IsFiner(unittest.TestCase):
    def test_plain_ones(self):
        self.assertIs(is_finer(2, THREE, ("a", "b")), True)
        self.assertIs(is_finer(2, ("a", "b"), THREE), False)
        self.assertIs(is_finer(2, THREE, ("a", "ba", "bb")), False)
        self.assertIs(is_finer(2, ("a", "ba", "bb"), THREE), False)
        self.assertIs(is_finer(2, even_book(2, 2), THREE), True)
        self.assertIs(is_finer(3, ("a", "ba", "bb", "bca", "bcb", "bcc", "c"), FIVE), True)
        self.assertIs(is_finer(3, FIVE, ("aa", "ab", "ac", "b", "c")), False)
        self.assertIs(is_finer(4, SEVEN, first_book(4)), True)
        self.assertIs(is_finer(4, first_book(4), SEVEN), False)
        self.assertIs(is_finer(2, even_book(2, 5), even_book(2, 4)), True)
        self.assertIs(is_finer(2, even_book(2, 5), comb(2, 7)), False)

    def test_a_book_and_itself(self):
        for many, book in all_the_books():
            with self.subTest(many=many, book=book):
                self.assertIs(is_finer(many, book, book), True)
                self.assertIs(is_finer(many, book, first_book(many)), True)
                self.assertIs(is_finer(many, first_book(many), book), book == first_book(many))

    def test_all_pairs(self):
        for pairs in (small_pairs(), great_pairs()):
            for many, one, other in pairs:
                if is_finer(many, one, other) is not plainly_finer(one, other):
                    self.fail(f"of {many} letters {one} and {other}")

    def test_finer_books_have_greater_means(self):
        for many, one, other in small_pairs():
            if is_finer(many, one, other) and one != other:
                for source in SOURCES:
                    if len(source) == many and not plain_mean(source, one) > plain_mean(source, other):
                        self.fail(f"{source}: {one} and {other}")
        self.assertEqual(mean((5, 2), THREE), (12, 7))
        self.assertEqual(mean((5, 2), ("a", "b")), (1, 1))


class Both(unittest.TestCase, Refusals):
    def test_plain_ones(self):
        self.assertEqual(both(2, THREE, ("a", "ba", "bb")), ("aa", "ab", "ba", "bb"))
        self.assertEqual(both(2, ("aaa", "aab", "ab", "b"), ("aa", "aba", "abb", "b")), ("aaa", "aab", "aba", "abb", "b"))
        self.assertEqual(both(3, FIVE, ("a", "b", "ca", "cb", "cc")), ("a", "ba", "bb", "bc", "ca", "cb", "cc"))
        self.assertEqual(both(4, SEVEN, ("aa", "ab", "ac", "ad", "b", "c", "d")),
                         ("aa", "ab", "ac", "ad", "b", "c", "da", "db", "dc", "dd"))

    def test_a_book_and_itself_and_one_that_is_finer(self):
        for many, book in all_the_books():
            with self.subTest(many=many, book=book):
                self.assertEqual(both(many, book, book), book)
                self.assertEqual(both(many, book, first_book(many)), book)
                self.assertEqual(both(many, first_book(many), book), book)

    def test_the_one_with_the_fewest_pieces_of_all_books(self):
        for many, one, other in small_pairs():
            told = both(many, one, other)
            finer = [book for book in all_books(many, SMALL[many])
                     if plainly_finer(book, one) and plainly_finer(book, other)]
            fewest = [book for book in finer if len(book) == min(map(len, finer))]
            if fewest != [told] and not (fewest == [] and len(told) > SMALL[many]):
                self.fail(f"of {many} letters {one} and {other}: {told}")

    def test_what_either_goes_on_from(self):
        for many, one, other in great_pairs():
            expected = book_of_inner(many, set(plain_inner(one)) | set(plain_inner(other)))
            if len(expected) <= 32:
                told = both(many, one, other)
                self.assertIs(type(told), tuple)
                self.assertEqual(told, expected)
                self.assertTrue(is_finer(many, told, one) and is_finer(many, told, other))
            else:
                self.refused(NoBook, both, many, one, other)

    def test_32_pieces_and_more(self):
        one = ("a",) + tuple("b" + text for text in even_book(2, 3))
        self.assertEqual(both(2, comb(2, 25), one), comb(2, 25)[:-1] + one[1:])
        self.assertEqual(len(both(2, comb(2, 25), one)), 32)
        self.refused(NoBook, both, 2, comb(2, 26), one)
        self.refused(NoBook, both, 2, one, comb(2, 26))
        self.refused(NoBook, both, 2, comb(2, 32), even_book(2, 5))
        self.refused(NoBook, both, 3, comb(3, 31), even_book(3, 2))
        self.refused(NoBook, both, 4, comb(4, 31), SEVEN)
        self.refused(NoBook, both, 3, comb(3, 31), FIVE)
        self.assertEqual(len(both(3, comb(3, 29), FIVE)), 31)
        self.assertEqual(len(both(4, comb(4, 28), SEVEN)), 31)


class Shared(unittest.TestCase):
    def test_plain_ones(self):
        self.assertEqual(shared(2, THREE, ("a", "ba", "bb")), ("a", "b"))
        self.assertEqual(shared(2, ("aaa", "aab", "ab", "b"), ("aa", "aba", "abb", "b")), THREE)
        self.assertEqual(shared(3, FIVE, ("a", "ba", "bba", "bbb", "bbc", "bc", "c")), FIVE)
        self.assertEqual(shared(3, FIVE, ("a", "b", "ca", "cb", "cc")), ("a", "b", "c"))
        self.assertEqual(shared(4, SEVEN, even_book(4, 2)), SEVEN)
        self.assertEqual(shared(2, comb(2, 32), even_book(2, 5)), comb(2, 6))

    def test_a_book_and_itself_and_one_that_is_finer(self):
        for many, book in all_the_books():
            with self.subTest(many=many, book=book):
                self.assertEqual(shared(many, book, book), book)
                self.assertEqual(shared(many, book, first_book(many)), first_book(many))
                self.assertEqual(shared(many, first_book(many), book), first_book(many))

    def test_the_one_with_the_most_pieces_of_all_books(self):
        for many, one, other in small_pairs():
            less = [book for book in all_books(many, PAIRED[many])
                    if plainly_finer(one, book) and plainly_finer(other, book)]
            most = [book for book in less if len(book) == max(map(len, less))]
            if most != [shared(many, one, other)]:
                self.fail(f"of {many} letters {one} and {other}")

    def test_what_both_go_on_from(self):
        for many, one, other in great_pairs():
            told = shared(many, one, other)
            self.assertIs(type(told), tuple)
            self.assertEqual(told, book_of_inner(many, set(plain_inner(one)) & set(plain_inner(other))))
            self.assertTrue(is_finer(many, one, told) and is_finer(many, other, told))


class StepsTo(unittest.TestCase):
    def walked(self, many, one, steps):
        """Goes the steps, each of which must be one that part or join can go, all joins first."""
        self.assertIs(type(steps), list)
        self.assertEqual([kind for kind, text in steps], sorted(kind for kind, text in steps))
        for step in steps:
            self.assertIs(type(step), tuple)
            self.assertIn(step[0], ("join", "part"))
            one = join(many, one, step[1]) if step[0] == "join" else part(many, one, step[1])
        return one

    def test_plain_ones(self):
        self.assertEqual(steps_to(2, ("a", "b"), THREE), [("part", "a")])
        self.assertEqual(steps_to(2, THREE, ("a", "b")), [("join", "a")])
        self.assertEqual(steps_to(2, THREE, ("a", "ba", "bb")), [("join", "a"), ("part", "b")])
        self.assertEqual(steps_to(2, ("aaa", "aab", "ab", "b"), ("a", "b")), [("join", "aa"), ("join", "a")])
        self.assertEqual(steps_to(2, ("a", "b"), ("aaa", "aab", "ab", "b")), [("part", "a"), ("part", "aa")])
        self.assertEqual(steps_to(3, FIVE, ("a", "b", "ca", "cb", "cc")), [("join", "b"), ("part", "c")])
        self.assertEqual(steps_to(4, SEVEN, first_book(4)), [("join", "d")])

    def test_none_to_itself(self):
        for many, book in all_the_books():
            with self.subTest(many=many, book=book):
                self.assertEqual(steps_to(many, book, book), [])

    def test_from_and_to_single_letters(self):
        for many, book in all_the_books():
            first = first_book(many)
            count = (len(book) - many) // (many - 1)
            up = steps_to(many, first, book)
            down = steps_to(many, book, first)
            with self.subTest(many=many, book=book):
                self.assertEqual([kind for kind, text in up], ["part"] * count)
                self.assertEqual([kind for kind, text in down], ["join"] * count)
                self.assertEqual(self.walked(many, first, up), book)
                self.assertEqual(self.walked(many, book, down), first)

    def test_each_step_leads_on(self):
        for pairs in (small_pairs(), great_pairs()):
            for many, one, other in pairs:
                steps = steps_to(many, one, other)
                self.assertEqual(self.walked(many, one, steps), other)
                self.assertEqual(len(steps), len(set(plain_inner(one)) ^ set(plain_inner(other))))

    def test_as_few_as_can_be(self):
        for many, size in ((2, 5), (3, 7), (4, 7)):
            books = all_books(many, size)
            for one in books:
                found = distances(many, one, books)
                for other in books:
                    if len(steps_to(many, one, other)) != found[other]:
                        self.fail(f"of {many} letters {one} to {other}")

    def test_told_lists_are_new(self):
        told = steps_to(2, THREE, ("a", "ba", "bb"))
        told.clear()
        self.assertEqual(steps_to(2, THREE, ("a", "ba", "bb")), [("join", "a"), ("part", "b")])
        told = steps_to(2, THREE, THREE)
        told.append(("part", "b"))
        self.assertEqual(steps_to(2, THREE, THREE), [])


class NoBooks(unittest.TestCase, Refusals):
    TWO_BOOKS = (is_finer, both, shared, steps_to)

    def test_as_the_first_book(self):
        for number, (many, thing) in enumerate(no_books()):
            with self.subTest(number=number):
                self.refused(NoBook, heads, many, thing)
                for other in ("a", "aa", "", None, ["a"]):
                    self.refused(NoBook, part, many, thing, other)
                    self.refused(NoBook, join, many, thing, other)
                for function in self.TWO_BOOKS:
                    for other in (("a", "b"), ("a", "b", "c"), ("a", "b", "c", "d"), (), None, thing):
                        self.refused(NoBook, function, many, thing, other)

    def test_as_the_second_book(self):
        for number, (many, thing) in enumerate(no_books()):
            for book in (first_book(many), even_book(many, 2)) if many in (2, 3, 4) else (("a", "b"), None):
                with self.subTest(number=number):
                    for function in self.TWO_BOOKS:
                        self.refused(NoBook, function, many, book, thing)

    def test_what_is_handed_in_is_not_changed(self):
        for number, (thing, again) in enumerate(zip(strange_things(), strange_things())):
            with self.subTest(number=number):
                self.refused(NoBook, heads, 2, thing)
                self.refused(NoPiece, part, 2, THREE, thing)
                self.refused(NoPiece, join, 2, THREE, thing)
                for function in self.TWO_BOOKS:
                    self.refused(NoBook, function, 2, THREE, thing)
                    self.refused(NoBook, function, thing, thing, thing)
                self.assertTrue(thing == again)


if __name__ == "__main__":
    unittest.main()
