"""What the test files share."""

import unittest


class RefusingCase(unittest.TestCase):
    def refused(self, refusal, fields, function, *places, **names):
        """The call is refused with just this class, and its fields are as told (a dict)."""
        with self.assertRaises(refusal) as caught:
            function(*places, **names)
        self.assertIs(type(caught.exception), refusal)
        for field, worth in fields.items():
            self.assertEqual(getattr(caught.exception, field), worth, (field, places, names))
