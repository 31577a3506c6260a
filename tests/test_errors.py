import unittest

from claimwise import errors

FIELDS = {
    "BadRow": ("row",),
    "Twice": ("row",),
    "NoPart": ("row",),
    "NoClaim": ("row",),
    "NoKind": ("claim", "row"),
    "TooBig": ("claim", "row"),
    "NotUnder": ("claim", "row"),
    "NoRange": ("claim", "row"),
    "NoGround": ("claim", "row", "word"),
    "TwoGrounds": ("claim", "row", "word"),
    "TooMany": (),
    "NoFit": (),
    "NoChange": (),
    "NotOwn": (),
}


class ErrorsTest(unittest.TestCase):
    def test_claim_error_is_straight_under_value_error(self):
        self.assertEqual(errors.ClaimError.__bases__, (ValueError,))

    def test_each_refusal_is_straight_under_claim_error(self):
        for name in FIELDS:
            with self.subTest(name):
                self.assertEqual(getattr(errors, name).__bases__, (errors.ClaimError,))

    def test_no_refusal_is_under_another(self):
        for name in FIELDS:
            for other in FIELDS:
                if name != other:
                    with self.subTest(name=name, other=other):
                        self.assertFalse(issubclass(getattr(errors, name), getattr(errors, other)))

    def test_there_are_no_other_refusals(self):
        found = [
            name for name, value in vars(errors).items()
            if isinstance(value, type) and value is not errors.ClaimError
        ]
        self.assertEqual(sorted(found), sorted(FIELDS))

    def test_fields_are_set_by_place(self):
        for name, fields in FIELDS.items():
            with self.subTest(name):
                values = [7 + 10 * place for place in range(len(fields))]
                error = getattr(errors, name)(*values)
                self.assertEqual(vars(error), dict(zip(fields, values)))

    def test_too_few_and_too_many_fields_are_not_taken(self):
        for name, fields in FIELDS.items():
            if fields:
                with self.subTest(name):
                    for count in (len(fields) - 1, len(fields) + 1):
                        with self.assertRaises(TypeError):
                            getattr(errors, name)(*range(count))

    def test_raised_it_is_taken_as_claim_error_and_value_error(self):
        for name, fields in FIELDS.items():
            with self.subTest(name):
                for above in (errors.ClaimError, ValueError):
                    with self.assertRaises(above):
                        raise getattr(errors, name)(*range(len(fields)))


if __name__ == "__main__":
    unittest.main()
