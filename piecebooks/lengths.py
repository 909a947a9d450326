"""How the pieces of each length share."""

from piecebooks.books import require_book_of
from piecebooks.sources import added, require_between, share

GREATEST_LENGTH = 99


def share_together(source, texts):
    total = (0, 1)
    for text in texts:
        total = added(total, share(source, text))
    return total


def pieces_of_length(book, length):
    return [piece for piece in book if len(piece) == length]


def length_shares(source, book):
    require_book_of(source, book)
    lengths = sorted(set([len(piece) for piece in book]))
    return [(length, share_together(source, pieces_of_length(book, length))) for length in lengths]


def longer_share(source, book, length):
    require_book_of(source, book)
    require_between(length, 0, GREATEST_LENGTH)
    return share_together(source, [piece for piece in book if len(piece) > length])


def second_mean(source, book):
    total = (0, 1)
    for length, part in length_shares(source, book):
        total = added(total, (part[0] * length * length, part[1]))
    return total
