"""Sources and books written as texts, and read from them."""

from piecebooks.books import is_book, require_book
from piecebooks.errors import NoText
from piecebooks.sources import GREATEST_WEIGHT, LETTERS, is_source, require_source
from piecebooks.words import words_of


def source_text(source):
    require_source(source)
    words = [letter + str(weight) for letter, weight in zip(LETTERS, source)]
    return " ".join(words) + "\n"


def book_text(many, book):
    require_book(many, book)
    lines = [word + " " + piece + "\n" for word, piece in zip(words_of(book), book)]
    return "".join(lines)


def require_text(thing):
    if not isinstance(thing, str):
        raise NoText("this is no text")


# Looked up and not read with int, which also takes blanks, signs and the digits of other scripts.
def weights_by_writing():
    weights = {}
    for weight in range(1, GREATEST_WEIGHT + 1):
        weights[str(weight)] = weight
    return weights


# Both readings are loose: what was read is written again, and must come to the same text.
# 0 stands for what is no weight's writing, since it makes no source.
def read_source(text):
    require_text(text)
    weights = weights_by_writing()
    source = tuple([weights.get(word[1:], 0) for word in text.rstrip("\n").split(" ")])
    if not is_source(source) or source_text(source) != text:
        raise NoText("this is not the writing of a source")
    return source


def read_book(many, text):
    require_text(text)
    book = tuple([line.partition(" ")[2] for line in text.split("\n")[:-1]])
    if not is_book(many, book) or book_text(many, book) != text:
        raise NoText("this is not the writing of a book of so many letters")
    return book
