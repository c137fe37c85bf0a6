"""What promise [6] says of names and layers, and the entry of missingmiles/words.py."""

import unittest

from missingmiles.words import LAYERS, STRANGERS, is_layer, is_name
from tests.helpers import ODD_VALUES


class Words(unittest.TestCase):
    def test_constants(self):
        self.assertEqual(LAYERS, ("foot", "cart"))
        self.assertEqual(STRANGERS, ("?1", "?2"))

    def test_names(self):
        for value in ["a", "z", "ab", "abcde", "zzzzz", "foot", "cart", "if", "else", "turn", "none"]:
            self.assertIs(is_name(value), True, value)
        self.assertIs(is_name(value="a"), True)

    def test_no_names(self):
        values = ["", "abcdef", "A", "aB", "Ab", "a1", "1", "a ", " a", "a b", "a-b", "a_b", "?1", "+1", "a\n", "\n",
                  "\u00e9", "\u00e4b", "\u03b1", "\u00df", "a" * 3000, "{", "`", 1, 0, ("a",), ["a"], ["a", "b"],
                  (1, 2)]
        for value in ODD_VALUES + values:
            self.assertIs(is_name(value), False, value)

    def test_layers(self):
        self.assertIs(is_layer("foot"), True)
        self.assertIs(is_layer("cart"), True)
        self.assertIs(is_layer("foot", 1), True)
        self.assertIs(is_layer("cart", 1), False)
        self.assertIs(is_layer("cart", layers=2), True)
        self.assertIs(is_layer(value="foot", layers=2), True)

    def test_no_layers(self):
        values = ["Foot", "foot ", "fo", "footcart", "carts", "?1", 0, 1, 2, ["foot"], ("foot",), ("foot", "cart")]
        for value in ODD_VALUES + values:
            for layers in (1, 2):
                self.assertIs(is_layer(value, layers), False, value)


if __name__ == "__main__":
    unittest.main()
