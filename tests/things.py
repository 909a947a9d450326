"""What several tests need: things of every kind, and a slow, plain judgement of books."""

from fractions import Fraction
from itertools import combinations, product
from random import Random

LETTERS = "abcd"


def nested(kind, thing, depth):
    for _ in range(depth):
        thing = kind([thing])
    return thing


def strange_things():
    """New things of every kind: no source, book, number of letters, pair or text of letters."""
    return [
        0, 1, 5, -1, -2, 10 ** 40, 10 ** 5000, True, False, None,
        "A", "e", "a b", "ab\n", "0", " ", "a\u00e9", "\U0001d41a",
        (), [], (None,), [None], (True,), [False], (1,), [1], (0,), ("",), [""], ("", ""),
        (True, True), (True, 1), (1, True), (1, None), (1, "1"), ("1", "1"), (1, (1,)), (1, [1]),
        [1, 1], [1, 2, 3], [True, 2], ((1, 2),), ((1, 2), (3, 4)), [(1, 2)],
        (0, 1), (1, 0), (1, 100), (100, 1), (-1, 1), (1, 1, 1, 1, 1), (10 ** 5000, 1),
        ["a", "b"], ["a", "ab"], ("a", 1), (1, "a"), ("a", True), (True, "b"), ("a", None), (None, "b"),
        ("a", ["b"]), (["a"], "b"), (("a",), "b"), ("a", ("b",)), (("a", "b"),), [("a", "b")],
        ([], []), ((), ()), (None, None), ("a", "b", None), ("a", "b", "c", 4), ("A", "B"), ("", "a", "b"),
        nested(list, "a", 10), nested(tuple, "a", 10), nested(list, 2, 10), nested(tuple, 2, 10),
        nested(tuple, ("a", "b"), 10), nested(list, [None, True, "", (1, ["a"])], 10), ("a", nested(list, "b", 10)),
        (1, nested(tuple, 1, 10)),
    ]


def all_texts(many, length):
    return ["".join(signs) for signs in product(LETTERS[:many], repeat=length)]


def texts_up_to(many, length):
    return [text for long in range(1, length + 1) for text in all_texts(many, long)]


def rising_tuples(texts):
    texts = sorted(texts)
    return [some for size in range(1, len(texts) + 1) for some in combinations(texts, size)]


def plainly_book(many, pieces):
    longest = max(len(piece) for piece in pieces)
    return all(
        sum(text.startswith(piece) for piece in pieces) == 1
        for text in all_texts(many, longest)
    )


def plain_pairs(pieces):
    """All pairs of which the one begins the other, the first one first, then the first other one."""
    return [(one, other) for one in pieces for other in pieces if one != other and other.startswith(one)]


def plain_texts_apart(many, pieces, length):
    """All texts up to a length that begin no piece and that none begins, short ones first, then rising."""
    return [
        text for text in [""] + texts_up_to(many, length)
        if not any(piece.startswith(text) or text.startswith(piece) for piece in pieces)
    ]


def comb(many, size):
    """A book in which only one piece is gone on at each length; size is how many pieces there are."""
    pieces = list(LETTERS[:many])
    while len(pieces) < size:
        last = max(pieces, key=len)
        pieces.remove(last)
        pieces.extend(last + letter for letter in LETTERS[:many])
    return tuple(sorted(pieces))


def as_tuple(fraction):
    return (fraction.numerator, fraction.denominator)


def plain_share(source, text):
    result = Fraction(1)
    for letter in text:
        result *= Fraction(source[LETTERS.index(letter)], sum(source))
    return result


def plain_inner(book):
    return sorted({piece[:end] for piece in book for end in range(len(piece))})


def plain_mean(source, book):
    return sum(plain_share(source, piece) * len(piece) for piece in book)


def plain_best(source, size):
    """Grown with fractions, sorted anew each time: slow and plain."""
    pieces = sorted(LETTERS[:len(source)])
    while len(pieces) + len(source) - 1 <= size:
        greatest = max(plain_share(source, piece) for piece in pieces)
        piece = [piece for piece in pieces if plain_share(source, piece) == greatest][0]
        pieces = sorted([other for other in pieces if other != piece]
                        + [piece + letter for letter in LETTERS[:len(source)]])
    return tuple(pieces)


def drawn_sources(count):
    """The same sources each time, of two, three and four letters in turn, of small and of great weights."""
    draw = Random(20261117)
    return [
        tuple(draw.randint(1, draw.choice((3, 9, 99))) for _ in range(2 + number % 3))
        for number in range(count)
    ]


def drawn_book(draw, many, partings):
    pieces = list(LETTERS[:many])
    for _ in range(partings - 1):
        piece = draw.choice(pieces)
        pieces.remove(piece)
        pieces.extend(piece + letter for letter in LETTERS[:many])
    return tuple(sorted(pieces))


def drawn_books(many, count):
    """The same books each time, of 1 to as many partings as there may be."""
    draw = Random(many)
    most = 31 // (many - 1)
    return [drawn_book(draw, many, 1 + number % most) for number in range(count)]


def drawn_texts(many, count, longest):
    draw = Random(many + 10)
    return ["".join(draw.choices(LETTERS[:many], k=draw.randint(0, longest))) for _ in range(count)]


def no_sizes(many):
    """Things of every kind that are no size for so many letters, those just beyond both edges first."""
    kept = [thing for thing in strange_things() if type(thing) is not int or not many <= thing <= 32]
    return [many - 1, 33, 34, 0, 1, -many, str(many), (many,), [many], (many, many)] + kept


class Refusals:
    """Beside a TestCase: asks for just one class of refusal."""

    def refused(self, error, function, *arguments):
        try:
            function(*arguments)
        except Exception as caught:
            self.assertIs(type(caught), error)
        else:
            self.fail(f"{function.__name__} did not refuse with {error.__name__}")
