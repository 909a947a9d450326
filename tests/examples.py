"""Books, pieces that are none, and what is near to them, for several tests."""

from piecebooks.books import even_book
from tests.things import comb, drawn_books, nested, strange_things

BOOKS = [
    (2, ("a", "b")),
    (2, ("aa", "ab", "b")),
    (2, ("a", "ba", "bb")),
    (2, ("aaa", "aab", "ab", "ba", "bb")),
    (2, comb(2, 32)),
    (2, even_book(2, 5)),
    (3, ("a", "b", "c")),
    (3, ("a", "ba", "bb", "bc", "c")),
    (3, ("aa", "ab", "ac", "b", "ca", "cb", "cca", "ccb", "ccc")),
    (3, comb(3, 31)),
    (3, even_book(3, 3)),
    (4, ("a", "b", "c", "d")),
    (4, ("a", "b", "c", "da", "db", "dc", "dd")),
    (4, comb(4, 31)),
    (4, even_book(4, 2)),
]

# For two, three and four letters, each of fewer pieces than its words can number.
THREE = ("aa", "ab", "b")
FIVE = ("a", "ba", "bb", "bc", "c")
SEVEN = ("a", "b", "c", "da", "db", "dc", "dd")

# Pieces that are no book, with the paper that why_not tells.
NO_BOOKS = [
    (2, ("a",), "b"),
    (2, ("b",), "a"),
    (2, ("aa",), "b"),
    (2, ("aa", "b"), "ab"),
    (2, ("aaa", "b"), "ab"),
    (2, ("aaa", "aab", "ba"), "ab"),
    (2, ("aa", "ba"), "ab"),
    (2, ("aa", "bb"), "ab"),
    (2, ("aaa", "aab", "ab", "ba"), "bb"),
    (2, ("aaa", "ab", "ba", "bb"), "aab"),
    (2, ("aaa", "ab", "baa", "bb"), "aab"),
    (2, ("a", "aa"), ("a", "aa")),
    (2, ("a", "aa", "ab"), ("a", "aa")),
    (2, ("a", "ab", "aba"), ("a", "ab")),
    (2, ("a", "ab", "b"), ("a", "ab")),
    (2, ("a", "b", "ba", "bb"), ("b", "ba")),
    (2, ("a", "abbb", "b", "ba"), ("a", "abbb")),
    (2, ("aab", "aaba", "ab", "b", "ba"), ("aab", "aaba")),
    (2, ("aa", "b", "bb"), ("b", "bb")),
    (3, ("a", "b"), "c"),
    (3, ("a", "c"), "b"),
    (3, ("aa", "ab", "b", "c"), "ac"),
    (3, ("a", "b", "ca", "cc"), "cb"),
    (3, ("a", "b", "c", "cab"), ("c", "cab")),
    (4, ("a", "b", "c"), "d"),
    (4, ("b", "c", "d"), "a"),
    (4, ("a", "b", "c", "da", "db", "dd"), "dc"),
    (4, ("a", "ad", "b", "ba", "c", "d"), ("a", "ad")),
]

# Near to pieces, each with its number of letters.
NO_PIECES = [
    (2, ()),
    (2, ("",)),
    (2, ("", "a", "b")),
    (2, ("b", "a")),
    (2, ("a", "a", "b")),
    (2, ("a", "b", "b")),
    (2, ("ab", "aa", "b")),
    (2, ("b", "aa", "ab")),
    (2, ["a", "b"]),
    (2, "ab"),
    (2, ("a", "b", "c")),
    (2, ("a", "bc")),
    (2, ("A", "B")),
    (3, ("a", "b", "c", "d")),
    (3, ("c", "b", "a")),
    (4, ("a", "b", "c", "d", "e")),
    (4, ("a", "b", "d", "c")),
    (2, comb(2, 33)),
    (3, comb(3, 33)),
    (4, comb(4, 34)),
    (2, even_book(2, 6)),
]

# What is no number of letters, of every kind.
NO_NUMBERS = [0, 1, 5, -2, 10 ** 40, 10 ** 5000, True, False, None, "", "2", "a", (), (2,), [2], [], (2, 2), ("a", "b"),
              nested(list, 2, 10), nested(tuple, 2, 10)]

SOURCES = [(1, 1), (5, 2), (99, 1), (1, 99), (2, 4), (99, 99), (5, 2, 1), (3, 3, 3), (10, 20, 30), (1, 98, 99),
           (5, 2, 1, 1), (1, 99, 1, 99), (99, 99, 99, 99), (2, 3, 5, 7), (99, 1, 1, 1)]

# Near to sources.
NO_SOURCES = [(1,), (1, 1, 1, 1, 1), (0, 1), (1, 0), (100, 1), (1, 100), (True, 1), (1, True), [1, 1], [5, 2, 1],
              (5, "2"), (5, None), ((5, 2), 1), "ab", "", 2, 3, 4, ("a", "b")]

# The greatest sizes with no more than 200 books.
SMALL = {2: 7, 3: 10, 4: 15}


def all_the_books():
    return BOOKS + [(many, book) for many in (2, 3, 4) for book in drawn_books(many, 31)]


def no_books():
    """Numbers of letters with what is no book of theirs, near to one and of every kind."""
    near = NO_PIECES + [(many, pieces) for many, pieces, paper in NO_BOOKS]
    kinds = strange_things() + ["", "a", "ab", "0", 2, 3, 4, (1, 2), ("a",), ["a", "b"]]
    wrong = NO_NUMBERS + strange_things()
    others = [(other, book) for many, book in BOOKS for other in (2, 3, 4) if other != many]
    return (near + others + [(many, thing) for many in (2, 3, 4) for thing in kinds]
            + [(number, book) for number in wrong for book in (("a", "b"), ("a", "b", "c"), None)])


def no_books_of_sources():
    """Sources with what is no book of their letters."""
    some = {2: (5, 2), 3: (5, 2, 1), 4: (5, 2, 1, 1)}
    return [(some[many], thing) for many, thing in no_books() if type(many) is int and many in some]
