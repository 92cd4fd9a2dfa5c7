"""Part 7: configurations (7.1)."""

import unittest

from cairn.config import Config
from cairn.errors import BadConfig


class ConfigTest(unittest.TestCase):

    def refused(self, *numbers):
        with self.subTest(numbers=numbers):
            with self.assertRaises(BadConfig):
                Config(*numbers)

    def taken(self, *numbers):
        with self.subTest(numbers=numbers):
            config = Config(*numbers)
            found = (config.keepers, config.shelves, config.data, config.spare, config.sectors)
            self.assertEqual(found, numbers)

    def test_attributes_and_names(self):
        config = Config(3, 4, 2, 1, 64)
        self.assertEqual(config.keeper_names(), ("k0", "k1", "k2"))
        self.assertEqual(config.shelf_names(), ("s0", "s1", "s2", "s3"))
        self.assertIsInstance(config.keeper_names(), tuple)
        self.assertIsInstance(config.shelf_names(), tuple)

    def test_names_of_the_least_and_the_most(self):
        least = Config(1, 1, 1, 0, 4)
        self.assertEqual((least.keeper_names(), least.shelf_names()), (("k0",), ("s0",)))
        most = Config(7, 24, 16, 4, 4096)
        self.assertEqual(most.keeper_names(), ("k0", "k1", "k2", "k3", "k4", "k5", "k6"))
        self.assertEqual(most.shelf_names(), tuple(f"s{number}" for number in range(24)))
        self.assertEqual(most.shelf_names()[10], "s10")

    def test_keepers(self):
        for keepers in range(-3, 12):
            if keepers in (1, 3, 5, 7):
                self.taken(keepers, 4, 2, 1, 64)
            else:
                self.refused(keepers, 4, 2, 1, 64)

    def test_shelves(self):
        for shelves in (-1, 0, 25, 26, 100):
            self.refused(3, shelves, 1, 0, 64)
        for shelves in range(1, 25):
            self.taken(3, shelves, 1, 0, 64)

    def test_data(self):
        for data in (-1, 0, 17, 18, 24):
            self.refused(3, 24, data, 0, 64)
        for data in range(1, 17):
            self.taken(3, 24, data, 0, 64)

    def test_spare(self):
        for spare in (-1, -2, -10):
            self.refused(3, 24, 1, spare, 64)
            self.refused(3, 4, 2, spare, 64)
        for spare in range(12):
            self.taken(3, 24, 1, spare, 64)
        self.refused(3, 24, 1, 12, 64)

    def test_shelves_for_data_and_spare(self):
        for data in range(1, 17):
            for spare in range(0, 6):
                for shelves in range(1, 25):
                    if shelves >= data + 2 * spare:
                        self.taken(1, shelves, data, spare, 4)
                    else:
                        self.refused(1, shelves, data, spare, 4)

    def test_sectors(self):
        for sectors in (-4, 0, 1, 3, 4097, 5000):
            self.refused(3, 4, 2, 1, sectors)
        for sectors in (4, 5, 64, 4095, 4096):
            self.taken(3, 4, 2, 1, sectors)

    def test_all_numbers_wrong(self):
        self.refused(0, 0, 0, -1, 0)
        self.refused(2, 25, 17, 20, 5000)


if __name__ == "__main__":
    unittest.main()
