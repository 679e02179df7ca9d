"""What the test files share."""

import unittest

from hamperlot.lots import GREAT

# Each is no lot, with the kind that BadLot tells.
NO_LOTS = [
    ((), -1),
    (((1,),) * 6, -1),
    (((1,),) * 9, -1),
    (((),), -1),
    (((), (1,)), -1),
    (((1, 1, 1, 1),), -1),
    (((1, 1, 1, 1), (1,)), -1),
    (((), (-1,), (7,), (0,), (1,), (1,)), -1),
    (((1, 2), (1,)), 1),
    (((1, 2), (1, 1, 1)), 1),
    (((1, 2), ()), 1),
    (((1,), (2,), (1, 1), (0,)), 2),
    (((-1, 1),), 0),
    (((1, -1),), 0),
    (((7,),), 0),
    (((0, 7), (1, 1)), 0),
    (((1, 1), (1, 7)), 1),
    (((1, 1), (6, 6), (2, -3)), 2),
    (((0,),), 0),
    (((0, 0, 0), (1, 1, 1)), 0),
    (((1, 1), (0, 0)), 1),
    (((1,), (1,), (1,), (1,), (0,)), 4),
    (((1, 1), (1,), (0, 0), (7, 7)), 1),
    (((1, 1), (9, 9), (1,)), 1),
    (((GREAT, 1),), 0),
]


class RefusingCase(unittest.TestCase):
    def refused(self, refusal, fields, function, *places, **names):
        """The call is refused with just this class, and its fields are as told (a dict)."""
        with self.assertRaises(refusal) as caught:
            function(*places, **names)
        self.assertIs(type(caught.exception), refusal)
        for field, worth in fields.items():
            self.assertEqual(getattr(caught.exception, field), worth, (field, places, names))
