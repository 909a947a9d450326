"""Which books take the fewest words for a text, and which texts take the most."""

from piecebooks.best import all_books, require_size
from piecebooks.books import cut_by, even_book, require_book
from piecebooks.sources import require_between, require_text_of

LONGEST_TEXT = 5


def words_by(book, text):
    found = cut_by(book, text)
    return len(found[0]) if found[1] == "" else len(found[0]) + 1


def words_for(many, book, text):
    require_book(many, book)
    require_text_of(many, text)
    return words_by(book, text)


# Of several that are as small min tells the first.
def best_for(many, size, text):
    require_size(many, size)
    require_text_of(many, text)
    return min(all_books(many, size), key=lambda book: words_by(book, text))


def fewest_words(many, size, text):
    return words_by(best_for(many, size, text), text)


# The even book holds all texts of a length, as they rise; of several as great max tells the first.
def dearest(many, book, length):
    require_book(many, book)
    require_between(length, 1, LONGEST_TEXT)
    text = max(even_book(many, length), key=lambda one: words_by(book, one))
    return (text, words_by(book, text))
