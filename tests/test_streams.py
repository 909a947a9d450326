import unittest
from random import Random

from piecebooks.books import cut
from piecebooks.errors import NoBook, NoLetters, NoStep
from piecebooks.streams import Stream
from piecebooks.words import led
from tests.examples import BOOKS, FIVE, SEVEN, THREE, all_the_books, no_books
from tests.things import LETTERS, Refusals, comb, drawn_texts, strange_things


def state(stream):
    return (stream.signs(), stream.left(), stream.text(), stream.pieces(), stream.steps())


def state_of(many, book, done, undone):
    """What a stream tells that was told these texts, and took back as many behind them."""
    text = "".join(done)
    signs, left = led(many, book, text)
    return (signs, left, text, cut(many, book, text)[0], (len(done), len(undone)))


def told(many, book, *texts):
    stream = Stream(many, book)
    for text in texts:
        stream.tell(text)
    return stream


class Tell(unittest.TestCase, Refusals):
    def test_new_ones(self):
        for many, book in BOOKS:
            with self.subTest(many=many, book=book):
                self.assertEqual(state(Stream(many, book)), ("", "", "", [], (0, 0)))

    def test_plain_ones(self):
        stream = Stream(2, THREE)
        self.assertEqual(stream.tell("aab"), "0010")
        self.assertEqual(stream.tell("a"), "")
        self.assertEqual(state(stream), ("0010", "a", "aaba", ["aa", "b"], (2, 0)))
        self.assertEqual(stream.tell("bb"), "0110")
        self.assertEqual(state(stream), ("00100110", "", "aababb", ["aa", "b", "ab", "b"], (3, 0)))
        stream = Stream(3, FIVE)
        self.assertEqual(stream.tell("cb"), "100")
        self.assertEqual(stream.tell("c"), "011")
        self.assertEqual(state(stream), ("100011", "", "cbc", ["c", "bc"], (2, 0)))
        stream = Stream(4, SEVEN)
        self.assertEqual(stream.tell("dad"), "011")
        self.assertEqual(state(stream), ("011", "d", "dad", ["da"], (1, 0)))

    def test_whatever_parts_what_all_of_the_text_is_led_to(self):
        for many, book in all_the_books():
            for text in drawn_texts(many, 4, 60):
                for long in (1, 2, 5, 100):
                    stream = Stream(many, book)
                    parts = [text[start:start + long] for start in range(0, len(text), long)]
                    signs = [stream.tell(part) for part in parts]
                    with self.subTest(many=many, book=book, text=text, long=long):
                        self.assertEqual("".join(signs), led(many, book, text)[0])
                        self.assertEqual(state(stream), state_of(many, book, parts, []))

    def test_the_empty_text(self):
        stream = told(2, THREE, "a")
        self.assertEqual(stream.tell(""), "")
        self.assertEqual(state(stream), ("", "a", "a", [], (2, 0)))
        self.assertEqual(stream.back(), "")
        self.assertEqual(state(stream), ("", "a", "a", [], (1, 1)))
        self.assertEqual(stream.forth(), "")
        self.assertEqual(state(stream), ("", "a", "a", [], (2, 0)))
        stream = told(2, THREE, "")
        self.assertEqual(state(stream), ("", "", "", [], (1, 0)))
        self.assertEqual(stream.back(), "")
        self.assertEqual(stream.steps(), (0, 1))
        self.refused(NoStep, stream.back)
        self.assertEqual(stream.forth(), "")
        self.assertEqual(stream.steps(), (1, 0))

    def test_what_is_refused_changes_nothing(self):
        for many, book in ((2, THREE), (3, FIVE), (4, SEVEN), (2, comb(2, 32)), (2, ("a", "b"))):
            stream = told(many, book, "ab", "b", "a", "ba")
            stream.back()
            before = state(stream)
            self.assertEqual(before[4], (3, 1))
            wrong = ["abcde"[:many + 1], "ab" * 20 + "z", "z", "a b", "ab\n"]
            for number, thing in enumerate(wrong + strange_things() + [2, ("a",), ["a"], ("a", "b")]):
                with self.subTest(many=many, book=book, number=number):
                    self.refused(NoLetters, stream.tell, thing)
                    self.assertEqual(state(stream), before)
            self.assertEqual(stream.forth(), "ba")

    def test_told_lists_are_new(self):
        stream = told(2, THREE, "aab")
        pieces = stream.pieces()
        pieces.reverse()
        pieces.append("z")
        self.assertEqual(state(stream), ("0010", "", "aab", ["aa", "b"], (1, 0)))
        stream.tell("b")
        self.assertEqual(stream.pieces(), ["aa", "b", "b"])
        new = Stream(2, THREE)
        new.pieces().append("b")
        self.assertEqual(state(new), ("", "", "", [], (0, 0)))

    def test_two_streams_go_by_themselves(self):
        one = Stream(2, THREE)
        other = Stream(2, THREE)
        one.tell("aab")
        self.assertEqual(state(other), ("", "", "", [], (0, 0)))
        other.tell("b")
        one.back()
        self.assertEqual(state(one), ("", "", "", [], (0, 1)))
        self.assertEqual(state(other), ("10", "", "b", ["b"], (1, 0)))


class BackAndForth(unittest.TestCase, Refusals):
    def test_a_new_stream(self):
        for many, book in BOOKS:
            stream = Stream(many, book)
            with self.subTest(many=many, book=book):
                self.refused(NoStep, stream.back)
                self.refused(NoStep, stream.forth)
                self.assertEqual(state(stream), ("", "", "", [], (0, 0)))

    def test_plain_ones(self):
        stream = told(2, THREE, "aab", "a", "bb")
        self.assertEqual(stream.back(), "bb")
        self.assertEqual(state(stream), ("0010", "a", "aaba", ["aa", "b"], (2, 1)))
        self.assertEqual(stream.back(), "a")
        self.assertEqual(state(stream), ("0010", "", "aab", ["aa", "b"], (1, 2)))
        self.assertEqual(stream.forth(), "a")
        self.assertEqual(state(stream), ("0010", "a", "aaba", ["aa", "b"], (2, 1)))
        self.assertEqual(stream.forth(), "bb")
        self.assertEqual(state(stream), ("00100110", "", "aababb", ["aa", "b", "ab", "b"], (3, 0)))
        self.refused(NoStep, stream.forth)
        self.assertEqual(state(stream), ("00100110", "", "aababb", ["aa", "b", "ab", "b"], (3, 0)))

    def test_all_the_way_back(self):
        stream = told(4, SEVEN, "d", "a", "", "bc")
        self.assertEqual([stream.back() for step in range(4)], ["bc", "", "a", "d"])
        self.assertEqual(state(stream), ("", "", "", [], (0, 4)))
        self.refused(NoStep, stream.back)
        self.assertEqual(state(stream), ("", "", "", [], (0, 4)))
        self.assertEqual([stream.forth() for step in range(4)], ["d", "a", "", "bc"])
        self.assertEqual(state(stream), state_of(4, SEVEN, ["d", "a", "", "bc"], []))

    def test_forth_behind_text_told_since(self):
        for since in ("b", "", "ab"):
            stream = told(2, THREE, "aab", "a", "bb")
            stream.back()
            stream.back()
            stream.tell(since)
            with self.subTest(since=since):
                self.assertEqual(stream.steps(), (2, 0))
                self.refused(NoStep, stream.forth)
                self.assertEqual(state(stream), state_of(2, THREE, ["aab", since], []))
                self.assertEqual(stream.back(), since)
                self.assertEqual(stream.steps(), (1, 1))
                self.assertEqual(stream.forth(), since)

    def test_forth_behind_text_told_again_goes_on(self):
        stream = told(3, FIVE, "b", "c", "a")
        for step in range(3):
            stream.back()
        stream.forth()
        self.assertEqual(stream.steps(), (1, 2))
        self.assertEqual(stream.forth(), "c")
        self.assertEqual(stream.back(), "c")
        self.assertEqual(stream.forth(), "c")
        self.assertEqual(stream.forth(), "a")
        self.assertEqual(state(stream), state_of(3, FIVE, ["b", "c", "a"], []))

    def test_text_is_told_behind_what_was_taken_back(self):
        stream = told(2, THREE, "a", "a")
        stream.back()
        self.assertEqual(stream.tell("b"), "01")
        self.assertEqual(state(stream), ("01", "", "ab", ["ab"], (2, 0)))

    def test_many_drawn_ways(self):
        draw = Random(12)
        for many, book in BOOKS * 3:
            stream = Stream(many, book)
            done = []
            undone = []
            for step in range(60):
                way = draw.choice(("tell", "tell", "back", "back", "forth"))
                if way == "tell":
                    text = "".join(draw.choices(LETTERS[:many], k=draw.randint(0, 7)))
                    behind = led(many, book, "".join(done) + text)[0]
                    self.assertEqual(led(many, book, "".join(done))[0] + stream.tell(text), behind)
                    done.append(text)
                    undone = []
                elif way == "back" and done:
                    undone.append(done.pop())
                    self.assertEqual(stream.back(), undone[-1])
                elif way == "forth" and undone:
                    done.append(undone.pop())
                    self.assertEqual(stream.forth(), done[-1])
                else:
                    self.refused(NoStep, stream.back if way == "back" else stream.forth)
                self.assertEqual(state(stream), state_of(many, book, done, undone))


class Twin(unittest.TestCase, Refusals):
    def middle(self):
        stream = told(2, THREE, "aab", "a", "bb", "")
        stream.back()
        stream.back()
        return stream

    def test_tells_the_same(self):
        for many, book in BOOKS:
            stream = Stream(many, book)
            with self.subTest(many=many, book=book):
                self.assertIs(type(stream.twin()), Stream)
                self.assertEqual(state(stream.twin()), state(stream))
                stream.tell("ab")
                stream.tell("a")
                stream.back()
                self.assertEqual(state(stream.twin()), state(stream))

    def test_takes_back_and_tells_again_the_same(self):
        twin = self.middle().twin()
        self.assertEqual(twin.steps(), (2, 2))
        self.assertEqual([twin.back(), twin.back()], ["a", "aab"])
        self.refused(NoStep, twin.back)
        self.assertEqual([twin.forth() for step in range(4)], ["aab", "a", "bb", ""])
        self.refused(NoStep, twin.forth)
        self.assertEqual(state(twin), state_of(2, THREE, ["aab", "a", "bb", ""], []))

    def test_each_goes_by_itself(self):
        before = state(self.middle())
        for change in (lambda stream: stream.tell("b"), lambda stream: stream.tell(""), lambda stream: stream.back(),
                       lambda stream: stream.forth(), lambda stream: stream.pieces().clear()):
            stream = self.middle()
            twin = stream.twin()
            change(stream)
            self.assertEqual(state(twin), before)
            self.assertEqual([twin.forth(), twin.forth()], ["bb", ""])
            stream = self.middle()
            twin = stream.twin()
            change(twin)
            self.assertEqual(state(stream), before)
            self.assertEqual([stream.back(), stream.back()], ["a", "aab"])

    def test_a_twin_s_twin(self):
        stream = self.middle()
        twin = stream.twin()
        third = twin.twin()
        twin.tell("b")
        stream.back()
        self.assertEqual(state(third), state(self.middle()))
        self.assertEqual(state(twin), state_of(2, THREE, ["aab", "a", "b"], []))


class NoBooks(unittest.TestCase, Refusals):
    def test_what_is_no_book(self):
        for number, (many, thing) in enumerate(no_books()):
            with self.subTest(number=number):
                self.refused(NoBook, Stream, many, thing)

    def test_what_is_handed_in_is_not_changed(self):
        stream = Stream(2, THREE)
        for number, (thing, again) in enumerate(zip(strange_things(), strange_things())):
            with self.subTest(number=number):
                self.refused(NoBook, Stream, 2, thing)
                self.refused(NoBook, Stream, thing, thing)
                self.refused(NoLetters, stream.tell, thing)
                self.assertTrue(thing == again)


if __name__ == "__main__":
    unittest.main()
