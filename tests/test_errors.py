import unittest

from onlyrise import errors

FIELDS = {
    "NoText": ("row",), "NoProgram": ("number",), "NoPaper": ("word", "number"),
    "NoDeed": ("place",), "NoJoin": ("word",), "NoLine": ("line",),
}
REFUSALS = [getattr(errors, name) for name in FIELDS]


class Errors(unittest.TestCase):
    def test_base(self):
        self.assertEqual(errors.RiseError.__bases__, (ValueError,))
        for refusal in REFUSALS:
            self.assertTrue(issubclass(refusal, errors.RiseError))
            self.assertIsInstance(refusal(*[0] * len(FIELDS[refusal.__name__])), ValueError)

    def test_none_under_another_one(self):
        for one in REFUSALS:
            for other in REFUSALS:
                if one is not other:
                    self.assertFalse(issubclass(one, other), (one, other))

    def test_fields_are_the_very_things(self):
        for name, fields in FIELDS.items():
            things = [["thing", k] for k in range(len(fields))]
            refusal = getattr(errors, name)(*things)
            for field, thing in zip(fields, things):
                self.assertIs(getattr(refusal, field), thing)

    def test_fields_in_their_order(self):
        paper = errors.NoPaper("shape", 3)
        self.assertEqual((paper.word, paper.number), ("shape", 3))

    def test_made_of_just_their_fields(self):
        for name, fields in FIELDS.items():
            refusal = getattr(errors, name)
            with self.assertRaises(TypeError):
                refusal(*[0] * (len(fields) - 1))
            with self.assertRaises(TypeError):
                refusal(*[0] * (len(fields) + 1))

    def test_taken_by_their_base_and_by_their_name(self):
        for name, fields in FIELDS.items():
            refusal = getattr(errors, name)
            with self.assertRaises(errors.RiseError):
                raise refusal(*fields)
            with self.assertRaises(refusal):
                raise refusal(*fields)


if __name__ == "__main__":
    unittest.main()
