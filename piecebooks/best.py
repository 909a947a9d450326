"""The best books of a size, a better one than another, and all books."""

from piecebooks.books import MOST_PIECES, first_book, gone_on, is_number_of_letters, parted
from piecebooks.errors import NoSize
from piecebooks.means import first_greatest, greatest_piece, least_inner, mean, shares_of
from piecebooks.sources import is_between, is_less, require_source, share


def is_size(many, thing):
    return is_number_of_letters(many) and is_between(thing, many, MOST_PIECES)


def require_size(many, thing):
    if not is_size(many, thing):
        raise NoSize("this is no size from as many as there are letters, 2 to 4, to 32")


# A parting takes one piece away and brings as many as there are letters.
def most_partings(many, size):
    return (size - 1) // (many - 1)


# Shares are kept along, since a parting brings few new pieces.
def best_book(source, size):
    require_source(source)
    many = len(source)
    require_size(many, size)
    pieces = first_book(many)
    shares = shares_of(source, pieces)
    for step in range(1, most_partings(many, size)):
        piece = first_greatest(pieces, shares)
        pieces = parted(many, pieces, piece)
        shares.update(shares_of(source, gone_on(many, [piece])))
    return pieces


def greatest_mean(source, size):
    return mean(source, best_book(source, size))


# The mean is all shares of proper beginnings together: it is the greatest if what was gone on
# from is nowhere less than what was not.
def is_best(source, book):
    greatest = share(source, greatest_piece(source, book))
    return not is_less(least_inner(source, book), greatest)


def better(source, book):
    if is_best(source, book):
        return None
    return best_book(source, len(book))


# Several partings lead to the same book, so the books are kept as keys.
def all_parted(many, books):
    found = {}
    for book in books:
        for piece in book:
            found[parted(many, book, piece)] = True
    return sorted(found)


def all_books(many, size):
    require_size(many, size)
    books = [first_book(many)]
    told = list(books)
    for step in range(1, most_partings(many, size)):
        books = all_parted(many, books)
        told.extend(books)
    return told


# Where one and other tell in how many ways so many partings are made in two places,
# this tells in how many ways they are made in both together.
def ways_together(one, other):
    ways = []
    for partings in range(len(one)):
        ways.append(sum([one[some] * other[partings - some] for some in range(partings + 1)]))
    return ways


# Behind each first letter stands nothing, or what is made by partings as all of the book is.
def how_many(many, size):
    require_size(many, size)
    ways = [1]
    for step in range(most_partings(many, size)):
        behind_all = ways
        for letter in range(1, many):
            behind_all = ways_together(behind_all, ways)
        ways = [1] + behind_all
    return sum(ways[1:])
