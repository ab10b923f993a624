import unittest

from openmarks import errors

WITH_MESSAGE = (
    errors.InvalidLabels, errors.InvalidWord, errors.InvalidDocument, errors.InvalidQuery,
    errors.InvalidPattern, errors.InvalidMachine, errors.InvalidChain, errors.InvalidOperation,
    errors.InvalidEdit, errors.ParseError,
)
WITH_VALUE = (
    (errors.InvalidNumber, IndexError, "value"),
    (errors.UnknownName, KeyError, "name"),
    (errors.BadTag, LookupError, "position"),
    (errors.TooMany, OverflowError, "limit"),
    (errors.Unlimited, ArithmeticError, "paper"),
    (errors.NothingToUndo, RuntimeError, "many"),
)


class ErrorsWithMessage(unittest.TestCase):
    """[0.15], the errors of wrong forms."""

    def test_bases(self):
        self.assertEqual(errors.MarkError.__bases__, (ValueError,))
        for error in WITH_MESSAGE:
            self.assertEqual(error.__bases__, (errors.MarkError,), error)

    def test_message(self):
        for error in WITH_MESSAGE + (errors.MarkError,):
            self.assertEqual(str(error("what is wrong")), "what is wrong")
            self.assertEqual(error("what is wrong").args, ("what is wrong",))

    def test_names(self):
        for error in WITH_MESSAGE + (errors.MarkError,):
            self.assertIs(getattr(errors, error.__name__), error)
            self.assertEqual(error.__module__, "openmarks.errors")


class ErrorsWithValue(unittest.TestCase):
    """[0.15], the errors that keep a value."""

    def test_bases(self):
        for error, base, _ in WITH_VALUE:
            self.assertEqual(error.__bases__, (base,), error)

    def test_value_by_position(self):
        for error, _, attribute in WITH_VALUE:
            for value in (0, True, None, "a", (), ("number", (0,), ()), [1], 10 ** 59):
                kept = getattr(error(value), attribute)
                self.assertIs(kept, value, error)

    def test_value_by_keyword(self):
        for error, _, attribute in WITH_VALUE:
            self.assertEqual(getattr(error(**{attribute: 4}), attribute), 4)

    def test_only_this_attribute(self):
        for error, _, attribute in WITH_VALUE:
            self.assertEqual(vars(error(4)), {attribute: 4})

    def test_one_value_is_needed(self):
        for error, _, _ in WITH_VALUE:
            self.assertRaises(TypeError, error)
            self.assertRaises(TypeError, error, 1, 2)

    def test_none_is_derived_from_another(self):
        every = [error for error, _, _ in WITH_VALUE] + list(WITH_MESSAGE)
        for error in every:
            derived = [other for other in every if issubclass(other, error)]
            self.assertEqual(derived, [error])
        for error, _, _ in WITH_VALUE:
            self.assertFalse(issubclass(error, errors.MarkError), error)

    def test_value_shows_in_the_text(self):
        self.assertEqual(str(errors.BadTag(4)), "4")
        self.assertIn("kid", str(errors.UnknownName("kid")))


if __name__ == "__main__":
    unittest.main()
