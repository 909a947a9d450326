"""How long pieces are in the mean, by the shares of letters, and what a bit is worth."""

from piecebooks.books import inner_of, require_book_of
from piecebooks.sources import added, is_less, lowest, share


def shares_of(source, texts):
    shares = {}
    for text in texts:
        shares[text] = share(source, text)
    return shares


# Only a greater share takes the place of an earlier one, so of several the first stays.
def first_greatest(pieces, shares):
    found = pieces[0]
    for piece in pieces:
        if is_less(shares[found], shares[piece]):
            found = piece
    return found


def mean(source, book):
    require_book_of(source, book)
    total = (0, 1)
    for piece in book:
        part = share(source, piece)
        total = added(total, (part[0] * len(piece), part[1]))
    return total


def bits_for(size):
    bits = 0
    room = 1
    while room < size:
        bits = bits + 1
        room = room * 2
    return bits


def gain(source, book):
    letters = mean(source, book)
    return lowest(letters[0], letters[1] * bits_for(len(book)))


def least_inner(source, book):
    require_book_of(source, book)
    least = (1, 1)
    for text in inner_of(book):
        part = share(source, text)
        if is_less(part, least):
            least = part
    return least


def greatest_piece(source, book):
    require_book_of(source, book)
    return first_greatest(book, shares_of(source, book))
