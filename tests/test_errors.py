import unittest

from twinless.errors import BadCode, TwinError


class Errors(unittest.TestCase):
    def test_bad_code_is_a_twin_error_and_that_a_value_error(self):
        self.assertEqual(TwinError.__bases__, (ValueError,))
        self.assertEqual(BadCode.__bases__, (TwinError,))

    def test_they_are_taken_as_what_they_stand_under(self):
        with self.assertRaises(TwinError):
            raise BadCode("a sign that is none")
        with self.assertRaises(ValueError):
            raise TwinError("a refusal")

    def test_a_twin_error_is_not_a_bad_code(self):
        self.assertNotIsInstance(TwinError("a refusal"), BadCode)


if __name__ == "__main__":
    unittest.main()
