import itertools
import unittest

from flipthreads.values import is_name, least_turn, same_round
from samples import NO_LISTS, NO_NUMBERS, backwards


def plain_least_turn(row):
    return min(tuple(row[k:]) + tuple(row[:k]) for k in range(len(row)))


class Names(unittest.TestCase):
    def test_names(self):
        for value in ["a", "z", "ab", "zebra", "abcdefgh", "zzzzzzzz", "five"]:
            with self.subTest(value):
                self.assertIs(is_name(value), True)

    def test_each_letter_is_a_name(self):
        for code in range(32, 127):
            self.assertEqual(is_name(chr(code)), "a" <= chr(code) <= "z", chr(code))
            self.assertEqual(is_name("x" + chr(code) + "y"), "a" <= chr(code) <= "z", chr(code))

    def test_wrong_strings(self):
        wrong = ["", "abcdefghi", "A", "aB", "a1", "a b", " a", "a ", "a\n", "\n", "a-b", "a_b", "`", "{", "a" * 3000]
        for value in wrong:
            with self.subTest(value):
                self.assertIs(is_name(value), False)

    def test_letters_of_other_alphabets_are_none(self):
        for value in ["\u00e9", "\u03b1", "a\u00df", "\u00aa"]:
            self.assertIs(is_name(value), False)

    def test_other_values(self):
        for value in [0, 1, True, False, None, (), [], ("a",), ["a"], ["a", "b"], [["a"]], b"a", {"a": 1}, object()]:
            with self.subTest(value=value):
                self.assertIs(is_name(value), False)
        for value in NO_LISTS + NO_NUMBERS:
            self.assertEqual(is_name(value), value in ("five", "abcdef") and isinstance(value, str))


class LeastTurns(unittest.TestCase):
    def test_empty_row(self):
        self.assertEqual(least_turn([]), ())
        self.assertEqual(least_turn(()), ())

    def test_one_item(self):
        self.assertEqual(least_turn([-4]), (-4,))

    def test_ordinary_rows(self):
        self.assertEqual(least_turn([2, 5, 4, -3, 7, 8]), (-3, 7, 8, 2, 5, 4))
        self.assertEqual(least_turn([3, 1, 2]), (1, 2, 3))
        self.assertEqual(least_turn([1, 2, 1, 1, 2]), (1, 1, 2, 1, 2))
        self.assertEqual(least_turn((2, 1, 2, 1)), (1, 2, 1, 2))

    def test_a_turn_is_not_sorted_and_not_reversed(self):
        self.assertEqual(least_turn([1, 3, 2]), (1, 3, 2))

    def test_the_result_is_a_tuple(self):
        self.assertIsInstance(least_turn([3, 1, 2]), tuple)
        self.assertIsInstance(least_turn([]), tuple)

    def test_all_short_rows(self):
        for size in range(1, 8):
            for row in itertools.product((-2, 1, 3), repeat=size):
                self.assertEqual(least_turn(list(row)), plain_least_turn(row))

    def test_rows_of_strings_and_tuples(self):
        self.assertEqual(least_turn(["b", "a", "c"]), ("a", "c", "b"))
        self.assertEqual(least_turn([(2, 1), (1, 9), (1, 2)]), ((1, 2), (2, 1), (1, 9)))

    def test_long_rows(self):
        row = [5] * 200 + [4] + [5] * 199
        self.assertEqual(least_turn(row), (4,) + (5,) * 399)
        self.assertEqual(least_turn([7] * 400), (7,) * 400)
        row = ([1, 2] * 100 + [1]) + [1, 2] * 99
        self.assertEqual(least_turn(row), plain_least_turn(row))

    def test_arguments_stay(self):
        row = [3, 1, 2]
        least_turn(row)
        self.assertEqual(row, [3, 1, 2])


class SameRounds(unittest.TestCase):
    def test_turns_of_one_another(self):
        row = [2, 5, 4, -3, 7, 8]
        for k in range(6):
            self.assertIs(same_round(row, row[k:] + row[:k]), True)

    def test_backwards_with_signs_changed(self):
        row = [2, 5, 4, -3, 7, 8]
        for k in range(6):
            self.assertIs(same_round(row, backwards(row[k:] + row[:k])), True)
            self.assertIs(same_round(backwards(row[k:] + row[:k]), row), True)

    def test_both_changes_are_needed(self):
        row = [2, 5, 4, -3, 7, 8]
        self.assertIs(same_round(row, row[::-1]), False)
        self.assertIs(same_round(row, [-item for item in row]), False)

    def test_unlike_rows(self):
        self.assertIs(same_round([1, 2, 3], [1, 3, 2]), False)
        self.assertIs(same_round([1, 2], [1, 2, 1, 2]), False)
        self.assertIs(same_round([1], []), False)
        self.assertIs(same_round([], [1]), False)
        self.assertIs(same_round([1], [2]), False)

    def test_edges(self):
        self.assertIs(same_round([], []), True)
        self.assertIs(same_round([], ()), True)
        self.assertIs(same_round([1], [-1]), True)
        self.assertIs(same_round([1, -1], [-1, 1]), True)

    def test_lists_and_tuples_alike(self):
        self.assertIs(same_round((1, 2, 3), [2, 3, 1]), True)
        self.assertIs(same_round([1, 2, 3], (-1, -3, -2)), True)

    def test_all_short_rows(self):
        rows = [row for size in range(4) for row in itertools.product((-2, -1, 1, 2), repeat=size)]
        for one in rows:
            turns = [one[k:] + one[:k] for k in range(len(one))] or [()]
            rounds = set(turns) | {tuple(backwards(turn)) for turn in turns}
            for other in rows:
                self.assertEqual(same_round(one, other), other in rounds)

    def test_arguments_stay(self):
        one, other = [3, 1, 2], [-1, -3, -2]
        same_round(one, other)
        self.assertEqual((one, other), ([3, 1, 2], [-1, -3, -2]))


if __name__ == "__main__":
    unittest.main()
