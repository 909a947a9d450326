"""Streams, told text piece by piece, that go back and forth."""

from piecebooks.books import cut_by, require_book
from piecebooks.errors import NoStep
from piecebooks.sources import require_text_of
from piecebooks.words import led_by


def require_step(texts):
    if texts == []:
        raise NoStep("there is no text to take back or to tell again")


# The rests are kept as they were behind each text, so that going back needs no text cut again.
class Stream:
    def __init__(self, many, book):
        require_book(many, book)
        self.many = many
        self.chosen = book
        self.done = []
        self.rests = [""]
        self.undone = []

    def go_on(self, text):
        found = led_by(self.chosen, self.left() + text)
        self.done.append(text)
        self.rests.append(found[1])
        return found[0]

    def tell(self, text):
        require_text_of(self.many, text)
        self.undone.clear()
        return self.go_on(text)

    def signs(self):
        return led_by(self.chosen, self.text())[0]

    def left(self):
        return self.rests[-1]

    def text(self):
        return "".join(self.done)

    def pieces(self):
        return cut_by(self.chosen, self.text())[0]

    def back(self):
        require_step(self.done)
        text = self.done.pop()
        self.rests.pop()
        self.undone.append(text)
        return text

    def forth(self):
        require_step(self.undone)
        text = self.undone.pop()
        self.go_on(text)
        return text

    def steps(self):
        return (len(self.done), len(self.undone))

    def twin(self):
        other = Stream(self.many, self.chosen)
        other.done = list(self.done)
        other.rests = list(self.rests)
        other.undone = list(self.undone)
        return other
