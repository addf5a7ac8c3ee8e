"""What several tests use."""

import unittest

GREAT = 10**60 - 1

# One of 5,000 figures can't even be written out by Python's str.
VERY_GREAT = (GREAT, -GREAT, 10**5000, -(10**5000))

SIZES = tuple((width, height) for width in range(1, 10) for height in range(1, 10))
BAD_SIDES = (0, -1, -9, 10, 11) + VERY_GREAT


class Refusals(unittest.TestCase):
    def refused(self, kind, asked, *places, **names):
        """That just this class is raised, not one under or above it."""
        try:
            asked(*places, **names)
        except Exception as error:
            self.assertIs(type(error), kind)
        else:
            self.fail("nothing was refused")
