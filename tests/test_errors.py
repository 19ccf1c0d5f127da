"""[3] and the interface: the classes of the refusals."""

import unittest

from dotscreen import errors

KINDS = ["NoPicture", "OutOfPicture", "NoMeet", "NoTile", "NoInks", "NoShares", "NoShade", "NoStretches", "NoWay",
         "NoText"]


class ErrorsTest(unittest.TestCase):
    def test_any_refusal_stands_under_value_error(self):
        self.assertEqual(errors.DotError.__bases__, (ValueError,))

    def test_each_class_stands_straight_under_dot_error(self):
        for kind in KINDS:
            with self.subTest(kind=kind):
                self.assertEqual(getattr(errors, kind).__name__, kind)
                self.assertEqual(getattr(errors, kind).__bases__, (errors.DotError,))

    def test_no_two_names_are_one_class(self):
        self.assertEqual(len({getattr(errors, kind) for kind in KINDS}), len(KINDS))

    def test_no_text_has_its_line_when_it_is_made(self):
        for line in (0, 1, 50000):
            with self.subTest(line=line):
                self.assertEqual(errors.NoText(line).line, line)
                with self.assertRaises(errors.DotError) as caught:
                    raise errors.NoText(line)
                self.assertEqual(caught.exception.line, line)


if __name__ == "__main__":
    unittest.main()
