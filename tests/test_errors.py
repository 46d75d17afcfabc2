import inspect
import unittest

from brushedsigns import errors
from brushedsigns.errors import BadText, SignError

PLAIN = [
    "BadStock", "BadName", "BadSign", "BadPicture", "BadPath", "BadWord", "BadBox", "BadMove", "BadHand", "BadOrder",
    "BadBook", "BadKinds", "NoPutting", "BadSamples", "BadSigns", "BadSorts", "BadStroke", "BadGrid", "BadCount",
    "BadCut", "NothingToUndo", "Full", "BadCommand", "TooMany",
]


class Errors(unittest.TestCase):
    def test_sign_error_stands_directly_under_value_error(self):
        self.assertEqual(SignError.__bases__, (ValueError,))

    def test_all_twenty_five_stand_directly_under_sign_error(self):
        self.assertEqual(len(PLAIN) + 1, 25)
        for name in PLAIN + ["BadText"]:
            self.assertEqual(getattr(errors, name).__bases__, (SignError,), name)
            self.assertEqual(getattr(errors, name).__name__, name)

    def test_none_stands_under_another_one(self):
        classes = [getattr(errors, name) for name in PLAIN + ["BadText"]]
        for one in classes:
            for other in classes:
                self.assertEqual(issubclass(one, other), one is other)

    def test_there_are_no_others(self):
        classes = [name for name, _ in inspect.getmembers(errors, inspect.isclass)]
        self.assertEqual(sorted(classes), sorted(PLAIN + ["BadText", "SignError"]))

    def test_all_are_defined_in_the_file(self):
        for name in PLAIN + ["BadText", "SignError"]:
            self.assertEqual(getattr(errors, name).__module__, "brushedsigns.errors")

    def test_those_without_fields_are_made_with_one_text(self):
        for name in PLAIN:
            with self.assertRaises(SignError) as caught:
                raise getattr(errors, name)("a text")
            self.assertEqual(str(caught.exception), "a text")
            self.assertEqual(vars(caught.exception), {})

    def test_bad_text_has_its_index_by_position_and_by_name(self):
        self.assertEqual(BadText(7).index, 7)
        self.assertEqual(BadText(index=8).index, 8)
        self.assertEqual(BadText(0).index, 0)
        with self.assertRaises(TypeError):
            BadText()

    def test_bad_text_has_the_index_of_each_object(self):
        first, second = BadText(1), BadText(2)
        self.assertEqual((first.index, second.index), (1, 2))


if __name__ == "__main__":
    unittest.main()
