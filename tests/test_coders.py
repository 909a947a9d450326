import unittest

from piecebooks.best import best_book
from piecebooks.books import first_book, is_book
from piecebooks.coders import Coder, Reader, learnt
from piecebooks.errors import NoLetters, NoSize, NoSource, NoWord
from piecebooks.sources import is_source
from piecebooks.words import word_of
from tests.examples import NO_SOURCES, SOURCES
from tests.things import LETTERS, Refusals, drawn_sources, drawn_texts, no_sizes, plain_best, strange_things

# Of each number of letters a small, a middle and the greatest size.
STARTS = [((1, 1), 2), ((5, 2), 4), ((99, 1), 32), ((60, 60), 7), ((1, 1, 1), 3), ((5, 2, 1), 8), ((30, 59, 2), 32),
          ((1, 1, 1, 1), 4), ((5, 2, 1, 1), 12), ((99, 99, 99, 99), 32)]


def plain_learnt(source, text):
    grown = [weight + text.count(letter) for letter, weight in zip(LETTERS, source)]
    if any(weight > 60 for weight in grown):
        grown = [weight // 2 + weight % 2 for weight in grown]
    return tuple(grown)


def plain_steps(source, size, text):
    """What a coder comes by: each piece with its word, and the source and the book behind it; then what is left."""
    steps = []
    book = plain_best(source, size)
    while any(text.startswith(piece) for piece in book):
        piece = [piece for piece in book if text.startswith(piece)][0]
        text = text[len(piece):]
        word = word_of(len(source), book, piece)
        source = plain_learnt(source, piece)
        book = plain_best(source, size)
        steps.append((piece, word, source, book))
    return steps, text


def state(learner):
    return (learner.source(), learner.book())


def coder_state(coder):
    return (coder.source(), coder.book(), coder.left())


class Learnt(unittest.TestCase, Refusals):
    def test_plain_ones(self):
        self.assertEqual(learnt((5, 2), "a"), (6, 2))
        self.assertEqual(learnt((5, 2), "abba"), (7, 4))
        self.assertEqual(learnt((1, 1, 1), "ccb"), (1, 2, 3))
        self.assertEqual(learnt((5, 2, 1, 1), "dadd"), (6, 2, 1, 4))

    def test_the_empty_text(self):
        self.assertEqual(learnt((5, 2), ""), (5, 2))
        self.assertEqual(learnt((59, 1), ""), (59, 1))
        self.assertEqual(learnt((60, 60, 59), ""), (60, 60, 59))
        self.assertEqual(learnt((61, 60), ""), (31, 30))
        self.assertEqual(learnt((1, 61, 2, 3), ""), (1, 31, 1, 2))
        self.assertEqual(learnt((99, 98), ""), (50, 49))
        self.assertEqual(learnt((1, 99, 1), ""), (1, 50, 1))

    def test_up_to_60_and_beyond(self):
        self.assertEqual(learnt((59, 7), "a"), (60, 7))
        self.assertEqual(learnt((59, 7), "aa"), (31, 4))
        self.assertEqual(learnt((60, 7), "b"), (60, 8))
        self.assertEqual(learnt((60, 7), "a"), (31, 4))
        self.assertEqual(learnt((7, 60), "b"), (4, 31))
        self.assertEqual(learnt((60, 59), "bb"), (30, 31))
        self.assertEqual(learnt((8, 9, 60), "c"), (4, 5, 31))
        self.assertEqual(learnt((61, 1, 1, 1), "d"), (31, 1, 1, 1))
        self.assertEqual(learnt((99, 99, 98, 97), "abcd"), (50, 50, 50, 49))
        self.assertEqual(learnt((99, 1), "a" * 31), (65, 1))

    def test_halved_behind_all_letters_and_once(self):
        self.assertEqual(learnt((60, 1), "ab"), (31, 1))
        self.assertEqual(learnt((60, 1), "abb"), (31, 2))
        self.assertEqual(learnt((1, 1), "a" * 59), (60, 1))
        self.assertEqual(learnt((1, 1), "a" * 60), (31, 1))
        self.assertEqual(learnt((1, 1), "a" * 99), (50, 1))
        self.assertEqual(learnt((1, 1), "b" * 150), (1, 76))

    def test_what_a_plain_count_tells(self):
        for source in SOURCES + drawn_sources(60):
            for text in drawn_texts(len(source), 10, 40):
                told = learnt(source, text)
                with self.subTest(source=source, text=text):
                    self.assertIs(type(told), tuple)
                    self.assertTrue(is_source(told))
                    self.assertEqual(told, plain_learnt(source, text))

    def test_what_is_no_source(self):
        for number, thing in enumerate(NO_SOURCES + strange_things()):
            with self.subTest(number=number):
                for text in ("", "a", "z", None, ["a"]):
                    self.refused(NoSource, learnt, thing, text)

    def test_what_is_no_text_of_its_letters(self):
        self.refused(NoLetters, learnt, (5, 2), "abc")
        self.refused(NoLetters, learnt, (5, 2, 1), "d")
        self.refused(NoLetters, learnt, (5, 2, 1, 1), "abcde")
        for source in ((5, 2), (5, 2, 1), (5, 2, 1, 1)):
            for number, thing in enumerate(strange_things() + [2, ("a",), ["a"], ("a", "b")]):
                with self.subTest(source=source, number=number):
                    self.refused(NoLetters, learnt, source, thing)


class Coders(unittest.TestCase, Refusals):
    def test_new_ones(self):
        for source, size in STARTS:
            coder = Coder(source, size)
            with self.subTest(source=source, size=size):
                self.assertEqual(coder_state(coder), (source, best_book(source, size), ""))

    def test_plain_ones(self):
        coder = Coder((2, 1), 3)
        self.assertEqual(coder.book(), ("aa", "ab", "b"))
        self.assertEqual(coder.tell("b"), "10")
        self.assertEqual(coder_state(coder), ((2, 2), ("aa", "ab", "b"), ""))
        self.assertEqual(coder.tell("b"), "10")
        self.assertEqual(coder_state(coder), ((2, 3), ("a", "ba", "bb"), ""))
        self.assertEqual(coder.tell("ab"), "0010")
        self.assertEqual(coder_state(coder), ((3, 4), ("a", "ba", "bb"), ""))
        self.assertEqual(coder.tell("bab"), "01")
        self.assertEqual(coder_state(coder), ((4, 5), ("a", "ba", "bb"), "b"))

    def test_what_is_left_is_gone_on_with(self):
        coder = Coder((2, 1), 4)
        self.assertEqual(coder.book(), ("aaa", "aab", "ab", "b"))
        self.assertEqual(coder.tell("a"), "")
        self.assertEqual(coder_state(coder), ((2, 1), ("aaa", "aab", "ab", "b"), "a"))
        self.assertEqual(coder.tell("a"), "")
        self.assertEqual(coder.left(), "aa")
        self.assertEqual(coder.tell("bb"), "01" + word_of(2, best_book((4, 2), 4), "b"))
        self.assertEqual(coder_state(coder), ((4, 3), best_book((4, 3), 4), ""))

    def test_single_letters(self):
        coder = Coder((1, 1, 1), 3)
        self.assertEqual(coder.tell("abcca"), "0001101000")
        self.assertEqual(coder_state(coder), ((3, 2, 3), ("a", "b", "c"), ""))
        coder = Coder((1, 1, 1, 1), 6)
        self.assertEqual(coder.tell("dcba"), "11100100")
        self.assertEqual(coder_state(coder), ((2, 2, 2, 2), first_book(4), ""))

    def test_halved_along_the_way(self):
        coder = Coder((60, 1), 2)
        self.assertEqual(coder.tell("b"), "1")
        self.assertEqual(coder.source(), (60, 2))
        self.assertEqual(coder.tell("aa"), "00")
        self.assertEqual(coder.source(), (32, 1))
        coder = Coder((99, 1), 2)
        self.assertEqual(coder.source(), (99, 1))
        self.assertEqual(coder.tell("b"), "1")
        self.assertEqual(coder.source(), (50, 1))

    def test_step_by_step_by_the_book_of_then(self):
        for source, size in STARTS:
            for text in drawn_texts(len(source), 6, 60):
                steps, rest = plain_steps(source, size, text)
                coder = Coder(source, size)
                with self.subTest(source=source, size=size, text=text):
                    for piece, word, weights, book in steps:
                        self.assertEqual(coder.tell(piece), word)
                        self.assertEqual(coder_state(coder), (weights, book, ""))
                    self.assertEqual(coder.tell(rest), "")
                    self.assertEqual(coder.left(), rest)

    def test_at_once_in_parts_and_letter_by_letter(self):
        for source, size in STARTS:
            for text in drawn_texts(len(source), 6, 80):
                steps, rest = plain_steps(source, size, text)
                signs = "".join(step[1] for step in steps)
                end = (steps[-1][2], steps[-1][3], rest) if steps else (source, best_book(source, size), rest)
                for long in (1, 2, 7, 100):
                    coder = Coder(source, size)
                    told = [coder.tell(text[start:start + long]) for start in range(0, len(text), long)]
                    with self.subTest(source=source, size=size, text=text, long=long):
                        self.assertEqual("".join(told), signs)
                        self.assertEqual(coder_state(coder), end)

    def test_the_weights_stay_a_source_and_the_book_a_book(self):
        for source, size in STARTS:
            many = len(source)
            coder = Coder(source, size)
            for letter in ("a" * 300 + LETTERS[many - 1] * 100):
                coder.tell(letter)
                if not (is_source(coder.source()) and is_book(many, coder.book()) and len(coder.book()) <= size):
                    self.fail(f"{source}, {size}: {coder.source()}")

    def test_the_empty_text(self):
        for source, size in STARTS:
            coder = Coder(source, size)
            with self.subTest(source=source, size=size):
                self.assertEqual(coder.tell(""), "")
                self.assertEqual(coder_state(coder), (source, best_book(source, size), ""))
        coder = Coder((5, 2), 4)
        coder.tell("a")
        self.assertEqual(coder.tell(""), "")
        self.assertEqual(coder_state(coder), ((5, 2), best_book((5, 2), 4), "a"))

    def test_what_is_refused_changes_nothing(self):
        for source, size in STARTS:
            many = len(source)
            wrong = ["abcde"[:many + 1], "ab" * 20 + "z", "z" + "ab", "a b", "A", "ab\n"]
            for ahead in ("", "a", "ab" * 5 + "a"):
                coder = Coder(source, size)
                coder.tell(ahead)
                before = coder_state(coder)
                for number, thing in enumerate(wrong + strange_things() + [2, ("a",), ["a"], ("a", "b")]):
                    with self.subTest(source=source, size=size, ahead=ahead, number=number):
                        self.refused(NoLetters, coder.tell, thing)
                        self.assertEqual(coder_state(coder), before)

    def test_two_coders_go_by_themselves(self):
        one = Coder((5, 2), 4)
        other = Coder((5, 2), 4)
        third = Coder(one.source(), 4)
        one.tell("abbba")
        kept = coder_state(one)
        self.assertEqual(coder_state(other), ((5, 2), best_book((5, 2), 4), ""))
        self.assertEqual(coder_state(third), coder_state(other))
        other.tell("bbbbbba")
        third.tell("")
        self.assertEqual(coder_state(one), kept)
        self.assertEqual(coder_state(third), ((5, 2), best_book((5, 2), 4), ""))


class Readers(unittest.TestCase, Refusals):
    def test_new_ones(self):
        for source, size in STARTS:
            reader = Reader(source, size)
            with self.subTest(source=source, size=size):
                self.assertEqual(state(reader), (source, best_book(source, size)))

    def test_plain_ones(self):
        reader = Reader((2, 1), 3)
        self.assertEqual(reader.hear("10"), "b")
        self.assertEqual(reader.hear("10"), "b")
        self.assertEqual(state(reader), ((2, 3), ("a", "ba", "bb")))
        self.assertEqual(reader.hear("00"), "a")
        self.assertEqual(state(reader), ((3, 3), ("aa", "ab", "b")))
        reader = Reader((1, 1, 1, 1), 4)
        self.assertEqual([reader.hear(word) for word in ("11", "10", "01", "00")], ["d", "c", "b", "a"])
        self.assertEqual(reader.source(), (2, 2, 2, 2))

    def test_hears_what_a_coder_was_told(self):
        for source, size in STARTS + [(source, 2 + 15 * (number % 3)) for number, source in enumerate(drawn_sources(18))
                                      if 2 + 15 * (number % 3) >= len(source)]:
            for text in drawn_texts(len(source), 4, 70):
                coder = Coder(source, size)
                reader = Reader(source, size)
                heard = ""
                with self.subTest(source=source, size=size, text=text):
                    for letter in text:
                        word = coder.tell(letter)
                        if word != "":
                            heard += reader.hear(word)
                        self.assertEqual(state(reader), state(coder))
                    self.assertEqual(heard + coder.left(), text)

    def test_hears_word_by_word_what_was_told_at_once(self):
        for source, size in STARTS:
            for text in drawn_texts(len(source), 6, 90):
                coder = Coder(source, size)
                reader = Reader(source, size)
                signs = coder.tell(text)
                heard = []
                while signs != "":
                    bits = len(word_of(len(source), reader.book(), reader.book()[0]))
                    heard.append(reader.hear(signs[:bits]))
                    signs = signs[bits:]
                with self.subTest(source=source, size=size, text=text):
                    self.assertEqual("".join(heard) + coder.left(), text)
                    self.assertEqual(state(reader), state(coder))

    def test_no_word_changes_nothing(self):
        for source, size in STARTS:
            for ahead in (0, 3):
                reader = Reader(source, size)
                for _ in range(ahead):
                    reader.hear(word_of(len(source), reader.book(), reader.book()[1]))
                before = state(reader)
                bits = len(word_of(len(source), before[1], before[1][0]))
                wrong = ["", "0" * (bits - 1), "0" * (bits + 1), "0" * (2 * bits), "2" * bits, " " * bits, "a" * bits,
                         "\u0660" * bits, "0" * (bits - 1) + "\n", before[1][0], ("0" * bits,), ["0" * bits]]
                wrong += [format(number, f"0{bits}b") for number in range(len(before[1]), 2 ** bits)]
                # Of two pieces the text 0 is a word.
                wrong += [thing for thing in strange_things() if thing != "0"]
                for number, thing in enumerate(wrong):
                    with self.subTest(source=source, size=size, ahead=ahead, number=number):
                        self.refused(NoWord, reader.hear, thing)
                        self.assertEqual(state(reader), before)

    def test_a_number_that_is_no_piece_s(self):
        self.refused(NoWord, Reader((2, 1), 3).hear, "11")
        self.refused(NoWord, Reader((1, 1, 1), 3).hear, "11")
        self.refused(NoWord, Reader((5, 2, 1, 1), 7).hear, "111")
        self.assertEqual(Reader((1, 1), 32).hear("11111"), "bbbbb")

    def test_two_readers_go_by_themselves(self):
        one = Reader((5, 2), 3)
        other = Reader((5, 2), 3)
        coder = Coder((5, 2), 3)
        one.hear("10")
        self.assertEqual(one.source(), (5, 3))
        self.assertEqual(state(other), ((5, 2), best_book((5, 2), 3)))
        self.assertEqual(state(coder), state(other))


class NoStarts(unittest.TestCase, Refusals):
    def test_what_is_no_source(self):
        for number, thing in enumerate(NO_SOURCES + strange_things()):
            with self.subTest(number=number):
                for size in (4, 2, 32, 1, 33, True, None, thing):
                    self.refused(NoSource, Coder, thing, size)
                    self.refused(NoSource, Reader, thing, size)

    def test_what_is_no_size(self):
        for source in ((5, 2), (5, 2, 1), (5, 2, 1, 1)):
            for number, thing in enumerate(no_sizes(len(source))):
                with self.subTest(source=source, number=number):
                    self.refused(NoSize, Coder, source, thing)
                    self.refused(NoSize, Reader, source, thing)

    def test_what_is_handed_in_is_not_changed(self):
        coder = Coder((5, 2), 4)
        reader = Reader((5, 2), 4)
        for number, (thing, again) in enumerate(zip(strange_things(), strange_things())):
            with self.subTest(number=number):
                self.refused(NoSource, Coder, thing, 4)
                self.refused(NoSource, learnt, thing, thing)
                self.refused(NoLetters, coder.tell, thing)
                self.refused(NoWord, reader.hear, thing)
                self.assertTrue(thing == again)


if __name__ == "__main__":
    unittest.main()
