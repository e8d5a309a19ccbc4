"""Points 11 to 14: whole numbers, names, words and rows of words."""

import itertools
import unittest

from drowsetree.errors import NoList, NoWord
from drowsetree.words import MOST, is_name, is_whole, is_word, number_of, row_of, split_row, words_of
from helpers import check_refused, odd_things


class WholeTest(unittest.TestCase):
    def test_both_ends_are_counted(self):
        for low, high in ((0, 0), (0, 5), (-3, 3), (-9, -7), (10 ** 29, 10 ** 29 + 1)):
            for number in (low, high, (low + high) // 2):
                self.assertIs(True, is_whole(number, low, high))
            self.assertIs(False, is_whole(low - 1, low, high))
            self.assertIs(False, is_whole(high + 1, low, high))

    def test_with_low_above_high_nothing_is(self):
        for number in range(-2, 12):
            self.assertIs(False, is_whole(number, 7, 3))

    def test_truths_are_no_whole_numbers(self):
        self.assertIs(False, is_whole(True, 0, 1))
        self.assertIs(False, is_whole(False, 0, 1))
        self.assertIs(False, is_whole(False, -1, 1))

    def test_other_things_are_none(self):
        for thing in odd_things():
            if isinstance(thing, bool) or not isinstance(thing, int):
                self.assertIs(False, is_whole(thing, -(10 ** 30), 10 ** 30))
                self.assertIs(False, is_whole(thing, 1, 0))

    def test_it_may_be_asked_by_names(self):
        self.assertIs(True, is_whole(thing=3, low=1, high=3))


class NameTest(unittest.TestCase):
    def test_names(self):
        for thing in ("a", "z", "disk", "abcdefgh", "zzzzzzzz"):
            self.assertIs(True, is_name(thing))
        self.assertIs(True, is_name(thing="m"))

    def test_no_names(self):
        for thing in odd_things():
            self.assertIs(False, is_name(thing))
        for thing in ("abcdefghi", "", "a" * 6000, "Disk", "disK", "d1sk", "di sk", "disk\n", "\ndisk"):
            self.assertIs(False, is_name(thing))

    def test_every_sign(self):
        for at in range(32, 127):
            sign = chr(at)
            self.assertIs("a" <= sign <= "z", is_name(sign))
            self.assertIs("a" <= sign <= "z", is_name("q" + sign))
            self.assertIs("a" <= sign <= "z", is_name(sign + "q"))


class NumberTest(unittest.TestCase):
    def test_most(self):
        self.assertEqual(1000000, MOST)
        self.assertIs(int, type(MOST))

    def test_what_writes_a_number(self):
        for number in (0, 1, 9, 10, 90, 100, 12345, 999999, 1000000):
            told = number_of(str(number))
            self.assertEqual(number, told)
            self.assertIs(int, type(told))

    def test_beyond_the_bounds(self):
        self.assertIsNone(number_of("1000001"))
        self.assertEqual(1000001, number_of("1000001", most=1000001))
        self.assertEqual(1000000000, number_of("1000000000", most=1000000000))
        self.assertIsNone(number_of("1000000001", most=1000000000))
        self.assertEqual(7, number_of("7", least=7, most=7))
        self.assertIsNone(number_of("6", least=7, most=8))
        self.assertIsNone(number_of("9", least=7, most=8))
        self.assertIsNone(number_of("10", least=7, most=8))
        self.assertIsNone(number_of("999999", least=1000000))
        self.assertEqual(1000000, number_of("1000000", least=1000000))
        self.assertEqual(0, number_of("0", most=0))
        self.assertIsNone(number_of("1", most=0))

    def test_with_least_above_most_there_is_none(self):
        for number in range(12):
            self.assertIsNone(number_of(str(number), least=7, most=3))

    def test_no_zero_ahead(self):
        for text in ("00", "01", "007", "0000000"):
            self.assertIsNone(number_of(text))

    def test_what_writes_none(self):
        for thing in odd_things():
            if thing != "0":
                self.assertIsNone(number_of(thing))
        for text in ("", "+1", "-1", "-0", "1 ", " 1", "1\n", "\n1", "1 2", "1_0", "1.0", "1e3", "0x1", "a", "1a"):
            self.assertIsNone(number_of(text))

    def test_texts_of_many_figures(self):
        self.assertIsNone(number_of("9" * 6000))
        self.assertIsNone(number_of("1" + "0" * 5999, most=1000000000))

    def test_bounds_go_by_name_alone(self):
        with self.assertRaises(TypeError):
            number_of("1", 0)


class WordsTest(unittest.TestCase):
    def test_words(self):
        for thing in ("a", "-", "A1>b", "/", "0", "~!", "x" * 6000):
            self.assertIs(True, is_word(thing))

    def test_no_words(self):
        for thing in odd_things():
            if not isinstance(thing, str):
                self.assertIs(False, is_word(thing))
        for thing in ("", " ", "\n", "a b", " a", "a ", "a\n", "\na", "a\nb"):
            self.assertIs(False, is_word(thing))

    def test_words_of(self):
        self.assertEqual(["a"], words_of("a"))
        self.assertEqual(["a", "b2", "-"], words_of("a b2 -"))
        self.assertEqual(["a"] * 3000, words_of(" ".join(["a"] * 3000)))

    def test_no_such_text(self):
        bad = ["", " ", "\n", " a", "a ", "a  b", "a b ", " a b", "\na", "a\n", "a\nb", "a \nb", "a b\n", "a\n b"]
        for thing in bad + [one for one in odd_things() if not isinstance(one, str)]:
            self.assertIsNone(words_of(thing))
            self.assertIsNone(split_row(thing))

    def test_split_row(self):
        self.assertEqual(("a", []), split_row("a"))
        self.assertEqual(("a", ["b", "c"]), split_row("a b c"))
        told = split_row("a b")
        self.assertIs(tuple, type(told))
        self.assertIs(list, type(told[1]))

    def test_all_short_texts(self):
        for size in range(6):
            for signs in itertools.product("a \n", repeat=size):
                text = "".join(signs)
                parts = text.split(" ")
                right = all(part and "\n" not in part for part in parts)
                self.assertEqual(parts if right else None, words_of(text))
                self.assertEqual((parts[0], parts[1:]) if right else None, split_row(text))

    def test_lists_that_are_told_are_new(self):
        text = "a b c"
        words_of(text).append("d")
        split_row(text)[1].append("d")
        self.assertEqual(["a", "b", "c"], words_of(text))
        self.assertEqual(("a", ["b", "c"]), split_row(text))


class RowOfTest(unittest.TestCase):
    def test_rows(self):
        self.assertEqual("a", row_of("a"))
        self.assertEqual("a", row_of("a", []))
        self.assertEqual("a b c", row_of("a", ["b", "c"]))
        self.assertEqual("a b c", row_of("a", ("b", "c")))
        self.assertEqual("a b", row_of(first="a", others=["b"]))

    def test_rows_lead_back(self):
        for many in (0, 1, 2, 99, 100):
            others = [f"w{at}" for at in range(many)]
            self.assertEqual(("a", others), split_row(row_of("a", others)))

    def test_what_is_no_first_word(self):
        for thing in odd_things():
            if not isinstance(thing, str) or thing in ("", " ", "a b", "a ", " a", "a\n", "\n"):
                check_refused(self, NoWord, {"found": thing}, row_of, thing, [1])
                check_refused(self, NoWord, {"found": thing}, row_of, thing, 5)

    def test_what_is_no_list(self):
        for thing in odd_things():
            if not isinstance(thing, (list, tuple)):
                check_refused(self, NoList, {"found": thing}, row_of, "a", thing)
        for thing in (["b"] * 101, ("b",) * 101, [1] * 101, ["b"] * 1000):
            check_refused(self, NoList, {"found": thing}, row_of, "a", thing)

    def test_the_first_other_that_is_no_word(self):
        for thing in odd_things():
            if not is_word(thing):
                check_refused(self, NoWord, {"found": thing}, row_of, "a", ["b", thing, "", None])
                check_refused(self, NoWord, {"found": thing}, row_of, "a", (thing,))

    def test_what_is_handed_in_stays(self):
        others = ["b", "c"]
        row_of("a", others)
        self.assertEqual(["b", "c"], others)


if __name__ == "__main__":
    unittest.main()
