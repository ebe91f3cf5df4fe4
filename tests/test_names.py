"""Point [2] and the interface's section rrdesk/names.py."""

import inspect
import string
import unittest

from rrdesk import names
from rrdesk.names import is_name

SIGNS = string.ascii_lowercase + string.digits


class TestIsName(unittest.TestCase):

    def assert_all(self, texts, meant):
        for text in texts:
            with self.subTest(text=text):
                self.assertIs(is_name(text), meant)

    def test_it_is_defined_in_its_file_with_its_argument(self):
        self.assertEqual(is_name.__module__, "rrdesk.names")
        self.assertIs(names.is_name, is_name)
        self.assertEqual(list(inspect.signature(is_name).parameters),
                         ["text"])

    def test_how_many_signs(self):
        self.assert_all(["a", "0", "ab", "abcdefghijk", "abcdefghijkl",
                         "999999999999", "000000000000"], True)
        self.assert_all(["", "abcdefghijklm", "9999999999999", "a" * 60],
                        False)
        for many in range(30):
            self.assertIs(is_name("x" * many), 1 <= many <= 12)

    def test_each_sign(self):
        self.assertEqual(len(SIGNS), 36)
        self.assert_all(SIGNS, True)
        self.assert_all([f"a{sign}" for sign in SIGNS], True)
        self.assert_all([f"{sign}7" for sign in SIGNS], True)
        self.assert_all([sign * 12 for sign in SIGNS], True)

    def test_no_other_sign_of_the_first_thousand(self):
        others = [chr(code) for code in range(1000) if chr(code) not in SIGNS]
        self.assertEqual(len(others), 964)
        self.assert_all(others, False)

    def test_another_sign_at_each_place(self):
        for sign in ["A", "Z", " ", "\n", "\t", "\r", "-", "_", "+", ".", "%",
                     "\x00", "`", "{", "/", ":", "\u00e9", "\u00df", "\u00b2",
                     "\u0663", "\u0430", "\uff11", "\uff41", "\u00a0",
                     "\u2028", "\U0001d7d8"]:
            self.assert_all([sign, f"{sign}bc", f"a{sign}c", f"ab{sign}",
                             f"{sign}bcdefghijkl", f"abcdef{sign}hijkl",
                             f"abcdefghijk{sign}", f"abcdefghijkl{sign}"],
                            False)

    def test_two_signs_that_stand_side_by_side_in_the_row_of_signs(self):
        self.assert_all(["ab", "z0", "xyz", "89", "za", "90", "9a"], True)


if __name__ == "__main__":
    unittest.main()
