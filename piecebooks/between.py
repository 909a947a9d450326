"""Books parted and joined, finer and less fine, and the steps from one to another."""

from piecebooks.books import gone_on, inner_of, is_beginning, is_inner, parted, require_book, require_piece
from piecebooks.errors import NoPiece


def part(many, book, piece):
    require_book(many, book)
    require_piece(book, piece)
    finer = parted(many, book, piece)
    require_book(many, finer)
    return finer


def is_gone_on(many, book, text):
    return all([longer in book for longer in gone_on(many, [text])])


# Without the empty text: with it in the stead of single letters there were no book left.
def heads(many, book):
    require_book(many, book)
    return [text for text in inner_of(book) if text != "" and is_gone_on(many, book, text)]


def join(many, book, head):
    if head not in heads(many, book):
        raise NoPiece("this is no head of the book")
    kept = [piece for piece in book if not piece.startswith(head)]
    return tuple(sorted(kept + [head]))


def require_two_books(many, one, other):
    require_book(many, one)
    require_book(many, other)


def begins_with_a_piece(book, text):
    return any([text.startswith(piece) for piece in book])


def is_finer(many, one, other):
    require_two_books(many, one, other)
    return all([begins_with_a_piece(other, piece) for piece in one])


# A piece that the other book goes on from can't stay; all else that either one has must be cut as finely.
def both(many, one, other):
    require_two_books(many, one, other)
    from_one = [piece for piece in one if not is_inner(other, piece)]
    from_other = [piece for piece in other if not is_inner(one, piece)]
    finer = tuple(sorted(set(from_one + from_other)))
    require_book(many, finer)
    return finer


# A piece that the other book does not reach to goes too far for it.
def shared(many, one, other):
    require_two_books(many, one, other)
    from_one = [piece for piece in one if is_beginning(other, piece)]
    from_other = [piece for piece in other if is_beginning(one, piece)]
    return tuple(sorted(set(from_one + from_other)))


# Each step makes or unmakes one proper beginning, so no fewer do than those that only one book has.
# What begins another stands ahead of it as texts rise: it is parted earlier, and joined later.
def steps_to(many, one, other):
    require_two_books(many, one, other)
    joined = sorted(set(inner_of(one)) - set(inner_of(other)))
    gone_on_from = sorted(set(inner_of(other)) - set(inner_of(one)))
    steps = [("join", head) for head in reversed(joined)]
    return steps + [("part", piece) for piece in gone_on_from]
