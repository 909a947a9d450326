import unittest
from fractions import Fraction
from math import gcd

from piecebooks.errors import NoLetters, NoSource
from piecebooks.sources import added, is_less, is_source, share
from tests.things import Refusals, as_tuple, nested, plain_share, strange_things, texts_up_to

SOURCES = [(1, 1), (5, 2), (99, 1), (2, 4), (99, 99), (5, 2, 1), (3, 3, 3), (10, 20, 30), (5, 2, 1, 1),
           (1, 99, 1, 99), (99, 99, 99, 99), (2, 3, 5, 7)]


class IsSource(unittest.TestCase):
    def test_sources(self):
        for source in SOURCES:
            with self.subTest(source=source):
                self.assertIs(is_source(source), True)

    def test_weights_at_the_edges(self):
        for place in range(3):
            for weight, answer in ((0, False), (1, True), (99, True), (100, False), (-1, False), (True, False)):
                source = [7, 7, 7]
                source[place] = weight
                with self.subTest(source=source):
                    self.assertIs(is_source(tuple(source)), answer)

    def test_numbers_of_weights_at_the_edges(self):
        for many, answer in ((0, False), (1, False), (2, True), (3, True), (4, True), (5, False), (6, False)):
            with self.subTest(many=many):
                self.assertIs(is_source((9,) * many), answer)

    def test_lists_are_none(self):
        self.assertIs(is_source([5, 2, 1]), False)

    def test_truths_are_no_weights(self):
        for thing in ((True, 1), (1, True), (True, True), (2, 3, True), (1, 2, 3, True), (False, 1)):
            with self.subTest(thing=thing):
                self.assertIs(is_source(thing), False)

    def test_any_thing_is_taken(self):
        things = strange_things() + ["", "ab", ("a", "b"), 2, 3, 4]
        for number, thing in enumerate(things):
            with self.subTest(number=number):
                self.assertIs(is_source(thing), False)


class Share(unittest.TestCase, Refusals):
    def test_plain_ones(self):
        self.assertEqual(share((5, 2, 1), "a"), (5, 8))
        self.assertEqual(share((5, 2, 1), "b"), (1, 4))
        self.assertEqual(share((5, 2, 1), "c"), (1, 8))
        self.assertEqual(share((5, 2, 1), "ab"), (5, 32))
        self.assertEqual(share((1, 2), "ab"), (2, 9))
        self.assertEqual(share((1, 1, 1, 1), "dcba"), (1, 256))

    def test_the_empty_text(self):
        for source in SOURCES:
            with self.subTest(source=source):
                self.assertEqual(share(source, ""), (1, 1))

    def test_against_fractions(self):
        for source in SOURCES:
            for text in texts_up_to(len(source), 4) + ["ab" * 40, "b" * 200]:
                with self.subTest(source=source, text=text):
                    self.assertEqual(share(source, text), as_tuple(plain_share(source, text)))

    def test_told_are_tuples_of_whole_numbers_in_lowest_terms(self):
        for source in SOURCES:
            for text in texts_up_to(len(source), 3):
                told = share(source, text)
                with self.subTest(source=source, text=text):
                    self.assertIs(type(told), tuple)
                    self.assertEqual([type(part) for part in told], [int, int])
                    self.assertEqual(gcd(told[0], told[1]), 1)
                    self.assertGreater(told[1], 0)

    def test_shares_of_all_letters_come_to_one(self):
        for source in SOURCES:
            whole = (0, 1)
            for letter in "abcd"[:len(source)]:
                whole = added(whole, share(source, letter))
            with self.subTest(source=source):
                self.assertEqual(whole, (1, 1))

    def test_what_is_no_source(self):
        things = strange_things() + ["", "ab", ("a", "b"), 2, 3, 4]
        for number, thing in enumerate(things):
            with self.subTest(number=number):
                self.refused(NoSource, share, thing, "ab")
                self.refused(NoSource, share, thing, "")

    def test_sources_just_beyond_the_edges(self):
        for thing in ((1,), (1, 1, 1, 1, 1), (0, 1), (1, 0), (100, 1), (1, 100), (True, 1), [1, 1]):
            with self.subTest(thing=thing):
                self.refused(NoSource, share, thing, "a")

    def test_letters_that_the_source_has_not(self):
        for source, text in (((1, 1), "c"), ((1, 1), "abc"), ((1, 1), "cab"), ((1, 1, 1), "abd"),
                             ((1, 1, 1, 1), "e"), ((1, 1, 1, 1), "abcde"), ((1, 1), "A"), ((1, 1), "a b")):
            with self.subTest(source=source, text=text):
                self.refused(NoLetters, share, source, text)

    def test_what_is_no_text_of_letters(self):
        things = strange_things() + [2, (1, 2), (5, 2, 1), ("a", "b"), ("a",), ["a"], nested(list, "ab", 10)]
        for source in ((1, 1), (5, 2, 1), (1, 2, 3, 4)):
            for number, thing in enumerate(things):
                with self.subTest(source=source, number=number):
                    self.refused(NoLetters, share, source, thing)

    def test_the_source_is_refused_first(self):
        for text in ("z", None, 3, ["a"]):
            with self.subTest(text=text):
                self.refused(NoSource, share, (1, 100), text)
                self.refused(NoSource, share, None, text)

    def test_what_is_handed_in_is_not_changed(self):
        for number, (thing, again) in enumerate(zip(strange_things(), strange_things())):
            with self.subTest(number=number):
                is_source(thing)
                self.refused(NoSource, share, thing, thing)
                self.refused(NoLetters, share, (1, 1), thing)
                self.assertTrue(thing == again)


class Fractions(unittest.TestCase):
    PARTS = [(up, down) for down in range(1, 13) for up in range(0, 20) if gcd(up, down) == 1]

    def test_plain_sums(self):
        self.assertEqual(added((1, 2), (1, 3)), (5, 6))
        self.assertEqual(added((1, 4), (1, 4)), (1, 2))
        self.assertEqual(added((1, 6), (1, 3)), (1, 2))
        self.assertEqual(added((3, 4), (1, 4)), (1, 1))
        self.assertEqual(added((7, 2), (1, 2)), (4, 1))

    def test_sums_with_nothing(self):
        self.assertEqual(added((0, 1), (0, 1)), (0, 1))
        for part in self.PARTS:
            with self.subTest(part=part):
                self.assertEqual(added((0, 1), part), part)
                self.assertEqual(added(part, (0, 1)), part)

    def test_sums_and_order_against_fractions(self):
        for one in self.PARTS:
            for other in self.PARTS:
                whole = Fraction(*one) + Fraction(*other)
                told = added(one, other)
                if told != (whole.numerator, whole.denominator) or type(told) is not tuple:
                    self.fail(f"{one} and {other} came to {told}")
                if is_less(one, other) is not (Fraction(*one) < Fraction(*other)):
                    self.fail(f"whether {one} is less than {other}")

    def test_what_is_equal_is_not_less(self):
        for part in self.PARTS:
            with self.subTest(part=part):
                self.assertIs(is_less(part, part), False)

    def test_great_ones(self):
        one = (10 ** 40, 10 ** 40 + 1)
        other = (10 ** 40 + 1, 10 ** 40 + 2)
        self.assertIs(is_less(one, other), True)
        self.assertIs(is_less(other, one), False)
        whole = Fraction(*one) + Fraction(*other)
        self.assertEqual(added(one, other), (whole.numerator, whole.denominator))


if __name__ == "__main__":
    unittest.main()
