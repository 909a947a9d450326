"""Coders and readers, whose weights change along with what they are told."""

from piecebooks.best import best_book
from piecebooks.sources import LETTERS, require_source, require_text_of
from piecebooks.words import piece_of, word_of

MOST_LEARNT = 60


def halved(weight):
    return (weight + 1) // 2


def learnt(source, piece):
    require_source(source)
    require_text_of(len(source), piece)
    weights = [weight + piece.count(letter) for letter, weight in zip(LETTERS, source)]
    if max(weights) > MOST_LEARNT:
        weights = [halved(weight) for weight in weights]
    return tuple(weights)


# A coder and a reader must come to the same books, so both learn here.
class Learner:
    def __init__(self, source, size):
        self.chosen = best_book(source, size)
        self.weights = source
        self.size = size

    def source(self):
        return self.weights

    def book(self):
        return self.chosen

    def learn(self, piece):
        self.weights = learnt(self.weights, piece)
        self.chosen = best_book(self.weights, self.size)


class Coder(Learner):
    def __init__(self, source, size):
        Learner.__init__(self, source, size)
        self.rest = ""

    def left(self):
        return self.rest

    # All of the text is judged ahead of its first letter: what is refused changes nothing.
    def tell(self, text):
        many = len(self.weights)
        require_text_of(many, text)
        words = []
        for letter in text:
            self.rest = self.rest + letter
            if self.rest in self.chosen:
                words.append(word_of(many, self.chosen, self.rest))
                self.learn(self.rest)
                self.rest = ""
        return "".join(words)


class Reader(Learner):
    def hear(self, word):
        piece = piece_of(len(self.weights), self.chosen, word)
        self.learn(piece)
        return piece
