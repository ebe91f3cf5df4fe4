"""The interface's section rrdesk/errors.py."""

import unittest

from rrdesk import errors

NAMES = ["NoName", "NoRank", "NoSpan", "NoDesk", "Known", "Unknown", "Full",
         "NotReady", "IsReady"]


class TestDeskError(unittest.TestCase):

    def test_it_stands_directly_under_value_error(self):
        self.assertEqual(errors.DeskError.__bases__, (ValueError,))

    def test_it_is_defined_in_its_file(self):
        self.assertEqual(errors.DeskError.__module__, "rrdesk.errors")
        self.assertEqual(errors.DeskError.__name__, "DeskError")

    def test_it_is_under_none_of_the_nine(self):
        for name in NAMES:
            with self.subTest(name=name):
                self.assertFalse(
                    issubclass(errors.DeskError, getattr(errors, name)))


class TestTheNine(unittest.TestCase):

    def test_each_is_defined_in_its_file_under_its_own_name(self):
        for name in NAMES:
            with self.subTest(name=name):
                kind = getattr(errors, name)
                self.assertEqual(kind.__name__, name)
                self.assertEqual(kind.__module__, "rrdesk.errors")

    def test_each_is_under_desk_error_and_value_error(self):
        for name in NAMES:
            with self.subTest(name=name):
                kind = getattr(errors, name)
                self.assertEqual(kind.__bases__, (errors.DeskError,))
                self.assertTrue(issubclass(kind, ValueError))

    def test_none_is_under_another(self):
        for name in NAMES:
            for other in NAMES:
                with self.subTest(name=name, other=other):
                    under = issubclass(getattr(errors, name),
                                       getattr(errors, other))
                    self.assertEqual(under, name == other)

    def test_each_can_be_raised_and_caught_as_each_it_is_under(self):
        for name in NAMES:
            kind = getattr(errors, name)
            for caught in (kind, errors.DeskError, ValueError):
                with self.subTest(name=name, caught=caught.__name__):
                    with self.assertRaises(caught) as held:
                        raise kind("no such thing")
                    self.assertIs(type(held.exception), kind)
                    self.assertEqual(str(held.exception), "no such thing")

    def test_a_handler_of_another_one_lets_it_pass(self):
        for name in NAMES:
            for other in NAMES:
                if name == other:
                    continue
                with self.subTest(name=name, other=other):
                    with self.assertRaises(getattr(errors, name)):
                        try:
                            raise getattr(errors, name)("no such thing")
                        except getattr(errors, other):
                            pass


if __name__ == "__main__":
    unittest.main()
