"""Books: pieces of which every long text begins with just one."""

from piecebooks.errors import NoBook, NoPiece
from piecebooks.sources import FEWEST_LETTERS, LETTERS, is_between, is_text_of, require_source, require_text_of

MOST_PIECES = 32


def is_number_of_letters(thing):
    return is_between(thing, FEWEST_LETTERS, len(LETTERS))


def is_rising(texts):
    return all([one < other for one, other in zip(texts, texts[1:])])


def are_pieces(many, thing):
    if not is_number_of_letters(many) or not isinstance(thing, tuple):
        return False
    if not 1 <= len(thing) <= MOST_PIECES:
        return False
    if not all([is_text_of(many, part) and part != "" for part in thing]):
        return False
    return is_rising(thing)


def require_pieces(many, thing):
    if not are_pieces(many, thing):
        raise NoBook("this is no rising tuple of 1 to 32 pieces of so many letters")


def require_book(many, thing):
    if not is_book(many, thing):
        raise NoBook("this is no book of so many letters")


def require_book_of(source, thing):
    require_source(source)
    require_book(len(source), thing)


def require_piece(book, thing):
    if thing not in book:
        raise NoPiece("this is no piece of the book")


def gone_on(many, texts):
    longer = []
    for text in texts:
        for letter in LETTERS[:many]:
            longer.append(text + letter)
    return longer


# What a piece goes on to stands where it stood, so the pieces are rising still.
def parted(many, pieces, piece):
    place = pieces.index(piece)
    return pieces[:place] + tuple(gone_on(many, [piece])) + pieces[place + 1:]


def is_beginning(pieces, text):
    return any([piece.startswith(text) for piece in pieces])


def is_inner(pieces, text):
    return any([piece.startswith(text) and piece != text for piece in pieces])


def is_apart(pieces, text):
    return not any([piece.startswith(text) or text.startswith(piece) for piece in pieces])


# What begins with a piece stands right behind it as pieces rise, so neighbours are enough.
def first_pair(pieces):
    for one, other in zip(pieces, pieces[1:]):
        if other.startswith(one):
            return (one, other)
    return None


# The first text apart is a proper beginning and one letter more, or a shorter one were apart.
# Going by length, it comes up before long pieces are walked to their ends.
def first_text_apart(many, pieces):
    inner = [""]
    while inner != []:
        longer = gone_on(many, inner)
        for text in longer:
            if is_apart(pieces, text):
                return text
        inner = [text for text in longer if is_inner(pieces, text)]
    return None


def first_paper(many, pieces):
    pair = first_pair(pieces)
    if pair is not None:
        return pair
    return first_text_apart(many, pieces)


def is_book(many, thing):
    return are_pieces(many, thing) and first_paper(many, thing) is None


def why_not(many, thing):
    require_pieces(many, thing)
    return first_paper(many, thing)


def is_pair_of(pieces, thing):
    if not isinstance(thing, tuple) or len(thing) != 2:
        return False
    if thing[0] not in pieces or thing[1] not in pieces:
        return False
    return thing[0] != thing[1] and thing[1].startswith(thing[0])


def shows_not(many, thing, paper):
    require_pieces(many, thing)
    if is_text_of(many, paper):
        return is_apart(thing, paper)
    return is_pair_of(thing, paper)


def first_book(many):
    return even_book(many, 1)


def even_book(many, length):
    texts = [""]
    for step in range(length):
        texts = gone_on(many, texts)
    return tuple(texts)


def inner_of(book):
    found = {}
    for piece in book:
        for end in range(len(piece)):
            found[piece[:end]] = True
    return sorted(found)


# Judges nothing: for those who cut by one book again and again.
def cut_by(book, text):
    pieces = []
    left = ""
    for letter in text:
        left = left + letter
        if left in book:
            pieces.append(left)
            left = ""
    return (pieces, left)


def cut(many, book, text):
    require_book(many, book)
    require_text_of(many, text)
    return cut_by(book, text)
