"""What the tests share: a case that asks for the very error class, and numbers that are far off."""

import unittest

FAR_NUMBERS = (
    2 ** 40 + 1,
    2 ** 41,
    2 ** 63,
    2 ** 64,
    10 ** 20,
    10 ** 30 - 1,
    -2,
    -41,
    -2 ** 40,
    -2 ** 64,
    -(10 ** 30 - 1),
)


class RefusalCase(unittest.TestCase):
    def refused(self, kind, call, *handed):
        with self.assertRaises(kind) as caught:
            call(*handed)
        self.assertIs(type(caught.exception), kind)
