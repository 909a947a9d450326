"""What comes of words of which a sign is spoilt."""

from piecebooks.books import require_book
from piecebooks.sources import require_between
from piecebooks.words import back, word_of, words_of


def other_sign(sign):
    return "1" if sign == "0" else "0"


def spoilt(signs, place):
    return signs[:place] + other_sign(signs[place]) + signs[place + 1:]


# What the signs lead back to is not asked for, but that they do lead back.
def flipped(many, book, signs, place):
    back(many, book, signs)
    require_between(place, 0, len(signs) - 1)
    return back(many, book, spoilt(signs, place))


def risky(many, book):
    require_book(many, book)
    words = words_of(book)
    found = []
    for word in words:
        for place in range(len(word)):
            if spoilt(word, place) not in words:
                found.append((word, place))
    return found


def unlike(many, book, one, other):
    one_word = word_of(many, book, one)
    other_word = word_of(many, book, other)
    return len([place for place in range(len(one_word)) if one_word[place] != other_word[place]])
