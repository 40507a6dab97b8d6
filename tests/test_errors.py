"""errors.py: the classes, and what [1.1] says of errors."""

import unittest

from spansay import errors
from spansay.errors import BadForm, BadPaper, Broken, Missing, NotAllowed, SpanError, TooLarge


class ErrorsTest(unittest.TestCase):
    def test_span_error_is_a_value_error(self):
        self.assertEqual(SpanError.__bases__, (ValueError,))

    def test_others_stand_directly_under_it(self):
        for kind in (NotAllowed, TooLarge, Missing, BadPaper, Broken, BadForm):
            self.assertEqual(kind.__bases__, (SpanError,), kind)

    def test_broken_has_a_number_and_a_run(self):
        error = Broken(7, (("on",), ()))
        self.assertEqual(error.number, 7)
        self.assertEqual(error.run, (("on",), ()))

    def test_bad_form_has_a_line(self):
        self.assertEqual(BadForm(12).line, 12)
        self.assertEqual(BadForm(line=3).line, 3)
        self.assertEqual(Broken(number=1, run=((),)).run, ((),))

    def test_they_are_defined_here(self):
        for kind in (SpanError, NotAllowed, TooLarge, Missing, BadPaper, Broken, BadForm):
            self.assertEqual(kind.__module__, errors.__name__)


if __name__ == "__main__":
    unittest.main()
