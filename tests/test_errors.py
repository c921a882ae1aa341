import unittest

from traproom import errors

NAMES = ["ByZero", "BadMove", "BadSheet", "BadShow", "BadFault", "BadCall"]


class ErrorsTest(unittest.TestCase):
    def test_each_is_a_traproom_error_and_a_value_error(self):
        self.assertTrue(issubclass(errors.TraproomError, ValueError))
        for name in NAMES:
            made = getattr(errors, name)("what is wrong")
            self.assertIsInstance(made, errors.TraproomError)
            self.assertIsInstance(made, ValueError)

    def test_none_is_an_instance_of_another_class(self):
        for name in NAMES:
            for other in NAMES:
                made = getattr(errors, name)("what is wrong")
                self.assertEqual(isinstance(made, getattr(errors, other)), name == other, (name, other))

    def test_the_base_class_is_no_instance_of_the_others(self):
        for name in NAMES:
            self.assertNotIsInstance(errors.TraproomError("what is wrong"), getattr(errors, name))

    def test_the_classes_that_each_one_derives_from(self):
        self.assertEqual(errors.TraproomError.__bases__, (ValueError,))
        for name in NAMES:
            self.assertEqual(getattr(errors, name).__bases__, (errors.TraproomError,))

    def test_there_are_no_others_and_they_have_no_fields(self):
        found = [name for name, value in vars(errors).items() if isinstance(value, type)]
        self.assertEqual(sorted(found), sorted(["TraproomError", *NAMES]))
        for name in found:
            self.assertEqual(vars(getattr(errors, name)("what is wrong")), {})

    def test_an_error_is_made_with_one_text(self):
        for name in ["TraproomError", *NAMES]:
            self.assertEqual(str(getattr(errors, name)("what is wrong")), "what is wrong")

    def test_errors_are_caught_by_the_base_class(self):
        for name in NAMES:
            with self.assertRaises(errors.TraproomError):
                raise getattr(errors, name)("what is wrong")

    def test_the_classes_are_defined_here(self):
        for name in ["TraproomError", *NAMES]:
            self.assertEqual(getattr(errors, name).__module__, "traproom.errors")


if __name__ == "__main__":
    unittest.main()
