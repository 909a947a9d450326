"""Words: the numbers of pieces in their book, all of one length, there and back."""

from piecebooks.books import cut_by, require_book, require_piece
from piecebooks.errors import NoWord
from piecebooks.means import bits_for
from piecebooks.sources import require_text_of


def word_for(number, bits):
    word = ""
    for place in range(bits):
        word = str(number % 2) + word
        number = number // 2
    return word


def words_of(book):
    bits = bits_for(len(book))
    return [word_for(number, bits) for number in range(len(book))]


def word_of(many, book, piece):
    require_book(many, book)
    require_piece(book, piece)
    return words_of(book)[book.index(piece)]


def piece_of(many, book, word):
    require_book(many, book)
    words = words_of(book)
    if word not in words:
        raise NoWord("this is no word of a piece")
    return book[words.index(word)]


# Judges nothing: for those who lead by one book again and again.
def led_by(book, text):
    found = cut_by(book, text)
    words = dict(zip(book, words_of(book)))
    return ("".join([words[piece] for piece in found[0]]), found[1])


def led(many, book, text):
    require_book(many, book)
    require_text_of(many, text)
    return led_by(book, text)


def whole_words(book, signs):
    bits = bits_for(len(book))
    if not isinstance(signs, str) or len(signs) % bits != 0:
        raise NoWord("these are no whole words")
    return [signs[start:start + bits] for start in range(0, len(signs), bits)]


def text_of_words(book, words):
    pieces = dict(zip(words_of(book), book))
    for word in words:
        if word not in pieces:
            raise NoWord("one of these is no word of a piece")
    return "".join([pieces[word] for word in words])


def back(many, book, signs):
    return from_word(many, book, signs, 0)


# A slice from below 0 would count from the end; there is nothing ahead of the first word.
def from_word(many, book, signs, number):
    require_book(many, book)
    words = whole_words(book, signs)
    return text_of_words(book, words[max(number, 0):])
