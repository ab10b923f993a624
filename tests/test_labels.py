import unittest
from inspect import isgenerator, signature
from itertools import product

from openmarks.base.labels import (
    all_words, is_labels, is_word, labels_from, make_labels, tags_down, tags_up)
from openmarks.errors import InvalidLabels, InvalidNumber, InvalidOperation, InvalidWord
from samples import (
    AB, BOOLEANS, FOUR, NOT_LABELS, NOT_PLAIN, NOT_WORDS, WRONG_ANYWHERE, check_keeps,
    check_raises, check_same, first_of, nested)

EDGE_LABELS = (("a",), ("z",), ("abcdefgh",), AB, FOUR, ("a", "aa", "ab", "b"), ("a", "zzzzzzzz"))


class Form(unittest.TestCase):
    """The interface of stage 1, and [0.3]: what is passed by keyword."""

    def test_parameters(self):
        wanted = {
            is_labels: "(value)",
            make_labels: "(*labels)",
            labels_from: "(values)",
            is_word: "(labels, value)",
            all_words: "(labels, *, longest)",
            tags_down: "(labels, word)",
            tags_up: "(labels, word, *, plain=False)",
        }
        for function, form in wanted.items():
            self.assertEqual(str(signature(function)), form, function)
            self.assertEqual(function.__module__, "openmarks.base.labels")

    def test_examples(self):
        self.assertEqual(make_labels("b", "a", "b"), ("a", "b"))
        self.assertEqual(list(all_words(AB, longest=1)), [(), ("a",), ("b",)])
        self.assertEqual(tags_down(AB, ("b", "a")), ("+b", "+a"))
        self.assertEqual(tags_up(AB, ("b", "a")), ("-a", "-b"))


class Labels(unittest.TestCase):
    """[0.7]: labels; [0.5]: functions whose name begins with is_."""

    def test_labels(self):
        for labels in EDGE_LABELS:
            self.assertIs(is_labels(labels), True, labels)

    def test_each_letter(self):
        letters = "abcdefghijklmnopqrstuvwxyz"
        for code in range(128):
            self.assertIs(is_labels((chr(code),)), chr(code) in letters, code)
            self.assertIs(is_labels(("a" + chr(code),)), chr(code) in letters, code)

    def test_letters_of_other_alphabets(self):
        for text in ("\u00e4", "\u0430", "\uff41", "\u00df", "a\u0301"):
            self.assertIs(is_labels((text,)), False)

    def test_not_labels(self):
        for value in NOT_LABELS:
            self.assertIs(is_labels(value), False, value)

    def test_some_part_replaced(self):
        for value in WRONG_ANYWHERE + BOOLEANS:
            if not isinstance(value, str):
                self.assertIs(is_labels((value,)), False, value)
                self.assertIs(is_labels(("a", value)), False, value)
                self.assertIs(is_labels((value, "b")), False, value)

    def test_long_values(self):
        self.assertIs(is_labels(tuple("a" * k for k in range(1, 300))), False)
        self.assertIs(is_labels(("a",) * 100000), False)


class MakeLabels(unittest.TestCase):
    """[0.3], [0.7]: make_labels and labels_from."""

    def check_both(self, values, wanted):
        self.assertEqual(make_labels(*values), wanted)
        self.assertEqual(labels_from(values), wanted)

    def test_any_order_and_repeats(self):
        self.check_both(("a",), ("a",))
        self.check_both(("a",) * 5000, ("a",))
        self.check_both(("b", "a", "b"), AB)
        self.check_both(("d", "c", "b", "a", "d"), FOUR)
        self.check_both(("b", "ab", "a", "aa"), ("a", "aa", "ab", "b"))
        self.check_both(("abcdefgh", "abcdefg"), ("abcdefg", "abcdefgh"))

    def test_all_orders_of_four(self):
        for values in product(FOUR, repeat=4):
            self.check_both(values, tuple(sorted(set(values))))

    def test_not_one_to_four(self):
        for values in ((), ("a", "b", "c", "d", "e"), ("e", "d", "c", "b", "a", "a")):
            check_raises(self, InvalidLabels, make_labels, *values)
            check_raises(self, InvalidLabels, labels_from, values)

    def test_wrong_arguments(self):
        for value in WRONG_ANYWHERE + BOOLEANS + ((), AB, "abcdefghi", "a b", "A"):
            if isinstance(value, str) and is_labels((value,)):
                continue
            for values in ((value,), ("a", value), (value, "a"), ("a", "b", value, "c", "d")):
                check_raises(self, InvalidLabels, make_labels, *values)
                check_raises(self, InvalidLabels, labels_from, values)

    def test_not_a_tuple(self):
        for value in WRONG_ANYWHERE + BOOLEANS + (["a", "b"], {"a": 0}, "ab"):
            if not isinstance(value, tuple):
                check_raises(self, InvalidLabels, labels_from, value)

    def test_arguments_stay(self):
        values = ["b", "a"]
        check_raises(self, InvalidLabels, labels_from, values)
        check_raises(self, InvalidLabels, make_labels, values)
        self.assertEqual(values, ["b", "a"])


class Words(unittest.TestCase):
    """[0.7]: words."""

    def test_words(self):
        for word in ((), ("a",), ("b", "a"), ("a", "a", "b")):
            self.assertIs(is_word(AB, word), True, word)
        self.assertIs(is_word(("abcdefgh",), ("abcdefgh", "abcdefgh")), True)

    def test_any_length(self):
        for length in (4999, 5000, 5001, 20000):
            self.assertIs(is_word(AB, ("b",) * length), True)
            self.assertIs(is_word(AB, ("b",) * length + ("c",)), False)

    def test_not_words(self):
        for value in NOT_WORDS:
            self.assertIs(is_word(AB, value), False, value)
            self.assertIs(is_word(AB, ("a", value)), value in AB, value)

    def test_wrong_labels(self):
        for labels in NOT_LABELS:
            check_raises(self, InvalidLabels, is_word, labels, ())
            check_raises(self, InvalidLabels, is_word, labels, None)


class AllWords(unittest.TestCase):
    """all_words, with [0.1] (integers) and [0.4] (errors of generators)."""

    def test_is_a_generator(self):
        self.assertTrue(isgenerator(all_words(AB, longest=2)))

    def test_order(self):
        for labels in (("a",), AB, ("a", "aa", "b"), FOUR):
            for longest in range(5):
                wanted = [w for k in range(longest + 1) for w in product(labels, repeat=k)]
                check_same(self, list(all_words(labels, longest=longest)), wanted)

    def test_edges_of_longest(self):
        self.assertEqual(list(all_words(FOUR, longest=0)), [()])
        self.assertEqual(list(all_words(("a",), longest=8)), [("a",) * k for k in range(9)])
        words = list(all_words(FOUR, longest=8))
        self.assertEqual(len(words), (4 ** 9 - 1) // 3)
        check_same(self, words, sorted(words, key=lambda word: (len(word), word)))
        self.assertEqual(len(set(words)), len(words))

    def test_wrong_longest(self):
        first = first_of(all_words)
        for value in WRONG_ANYWHERE + BOOLEANS + (9, (), AB):
            if type(value) is not int or not 0 <= value <= 8:
                check_keeps(self, InvalidNumber, "value", value, first, AB, longest=value)

    def test_wrong_labels_come_first(self):
        for labels in NOT_LABELS:
            check_raises(self, InvalidLabels, first_of(all_words), labels, longest=1)
            check_raises(self, InvalidLabels, first_of(all_words), labels, longest=None)

    def test_two_at_once(self):
        one, other = all_words(AB, longest=2), all_words(AB, longest=2)
        pairs = [(next(one), next(other)) for _ in range(7)]
        self.assertTrue(all(x == y for x, y in pairs))


class Tags(unittest.TestCase):
    """tags_down and tags_up, with [0.4] (the order of errors) and [0.8] (tags)."""

    def test_down(self):
        self.assertEqual(tags_down(AB, ()), ())
        self.assertEqual(tags_down(AB, ("a", "b", "b")), ("+a", "+b", "+b"))
        self.assertEqual(tags_down(("abcdefgh",), ("abcdefgh",)), ("+abcdefgh",))

    def test_up(self):
        word = ("a", "b", "b", "a", "b")
        self.assertEqual(tags_up(AB, ()), ())
        self.assertEqual(tags_up(AB, (), plain=True), ())
        self.assertEqual(tags_up(AB, word), ("-b", "-a", "-b", "-b", "-a"))
        self.assertEqual(tags_up(AB, word, plain=False), ("-b", "-a", "-b", "-b", "-a"))
        self.assertEqual(tags_up(AB, word, plain=True), ("-",) * 5)

    def test_length_of_words(self):
        word = ("a", "b") * 2500
        check_same(self, tags_down(AB, word), ("+a", "+b") * 2500)
        check_same(self, tags_up(AB, word), ("-b", "-a") * 2500)
        check_raises(self, InvalidWord, tags_down, AB, word + ("a",))
        check_raises(self, InvalidWord, tags_up, AB, word + ("a",))
        check_raises(self, InvalidWord, tags_up, AB, word + ("a",), plain=True)

    def test_wrong_words(self):
        for word in NOT_WORDS:
            for value in (word, ("a", word)):
                if not is_word(AB, value):
                    check_raises(self, InvalidWord, tags_down, AB, value)
                    check_raises(self, InvalidWord, tags_up, AB, value)
                    check_raises(self, InvalidWord, tags_up, AB, value, plain=None)

    def test_wrong_plain(self):
        for plain in NOT_PLAIN:
            check_raises(self, InvalidOperation, tags_up, AB, ("a",), plain=plain)
            check_raises(self, InvalidOperation, tags_up, AB, (), plain=plain)

    def test_wrong_labels_come_first(self):
        for labels in NOT_LABELS:
            check_raises(self, InvalidLabels, tags_down, labels, ())
            check_raises(self, InvalidLabels, tags_down, labels, None)
            check_raises(self, InvalidLabels, tags_up, labels, ())
            check_raises(self, InvalidLabels, tags_up, labels, None, plain=None)

    def test_arguments_stay(self):
        word = ["a", nested("list")]
        check_raises(self, InvalidWord, tags_down, AB, word)
        check_raises(self, InvalidWord, tags_up, AB, word)
        self.assertEqual(word, ["a", nested("list")])


if __name__ == "__main__":
    unittest.main()
