"""What tests of refused worlds have in common: each wrong world beside the same one without what is amiss."""

import unittest

from cellar import cellar_world
from tellworld.errors import NoWorld


class WorldCase(unittest.TestCase):
    def let_by(self, **changes):
        with self.subTest(let_by=changes):
            return cellar_world(**changes)

    def refused(self, **changes):
        with self.subTest(refused=changes):
            try:
                cellar_world(**changes)
            except NoWorld as refusal:
                self.assertIs(refusal.__class__, NoWorld)
                self.assertEqual(vars(refusal), {})
            else:
                self.fail("let by")
