"""Point 18: read_torn."""

import random
import unittest

from spoilorder.errors import BadOutcome, BadShop, BadText, BadWorkers, SpoilError
from spoilorder.reading import read_host, read_torn
from spoilorder.showing import show_host
from tests.common import any_values
from tests.test_hosts import told
from tests.test_texts import HOST_TEXT, SHOP_TEXT, random_host


class TornTest(unittest.TestCase):
    def outcome(self, call, *args):
        try:
            return call(*args)
        except SpoilError as error:
            return error.__class__, repr(vars(error))

    def cut_at(self, text, place):
        """What comes of the text cut off there, beside the text of all lines that end with a line feed."""
        torn = text[:place]
        whole = torn[:torn.rfind("\n")] if "\n" in torn else ""
        found, right = self.outcome(read_torn, torn), self.outcome(read_host, whole)
        if isinstance(right, tuple):
            self.assertEqual(found, right)
            return False
        host, rest = found
        self.assertTrue(host == right)
        self.assertEqual(told(host), told(right))
        self.assertEqual(rest, torn[torn.rfind("\n") + 1:])
        self.assertEqual(show_host(host) + "\n" + rest, torn)
        return True

    def test_cut_off_at_every_place(self):
        chance = random.Random(184)
        texts = [HOST_TEXT, HOST_TEXT + "\n", "workers x\n" + SHOP_TEXT + "\nrun x a pass\nbegin v w\n"]
        for text in texts + [show_host(random_host(chance, 6)) + "\n" for _ in range(8)]:
            seen = [self.cut_at(text, place) for place in range(len(text) + 1)]
            # From the line feed of the first group's line on there is a shop.
            first = text.index("\n", text.index("\n") + 1)
            if text != texts[2] and text.count("group") == 1:
                self.assertEqual(seen, [False] * (first + 1) + [True] * (len(text) - first))

    def test_amid_the_line_of_workers(self):
        for text in ("", "w", "workers", "workers p", "workers p q", "group g a", "clear"):
            with self.assertRaises(BadText) as caught:
                read_torn(text=text)
            self.assertEqual(caught.exception.line, 0)

    def test_amid_the_lines_of_the_shop(self):
        for text in ("workers p\n", "workers p\ngroup", "workers p\ngroup g a", "workers q p\ngroup g a"):
            with self.assertRaises(BadShop) as caught:
                read_torn(text)
            self.assertEqual(caught.exception.value, ())
        host, rest = read_torn("workers p\ngroup g a\ngroup h v")
        self.assertEqual((host.shop.groups, rest), ((("g", ("a",)),), "group h v"))
        host, rest = read_torn("workers p\ngroup g a\ngroup h v\n")
        self.assertEqual((host.shop.groups, rest), ((("g", ("a",)), ("h", ("v",))), ""))

    def test_amid_the_deeds(self):
        host, rest = read_torn("workers p\ngroup g a\nrun p a pass\nrun p a pa")
        self.assertEqual((host.log, rest), ((("run", "p", ("a", 1), "pass"),), "run p a pa"))
        host, rest = read_torn("workers p\ngroup g a\nrun p a pass\nrun p a pass")
        self.assertEqual((len(host.log), rest), (1, "run p a pass"))
        # What stands behind the last line feed is not looked at.
        for rest in ("no line", "  ", "workers p", "tell 0 -", "\t", "\r", "x" * 500):
            self.assertEqual(read_torn("workers p\ngroup g a\nrun p a pass\n" + rest)[1], rest)

    def test_no_string(self):
        for value in any_values():
            if not isinstance(value, str):
                with self.assertRaises(BadText) as caught:
                    read_torn(value)
                self.assertEqual(caught.exception.line, 0)

    def test_errors_of_whole_lines(self):
        for text, error, told_value in (
                ("\n", BadText, 0), ("\nworkers p", BadText, 0), ("group g a\nworkers p\n", BadText, 0),
                ("workers p\n\ngroup g a\n", BadText, 1), ("workers p\ngroup g a\n\n", BadText, 2),
                ("workers p\ngroup g a\nno line\nrest", BadText, 2), ("workers p\ngroup g a \n", BadText, 1),
                ("workers p\ngroup g a\nclear\ngroup h v\n", BadText, 3), ("workers p\ngroup g a\nworkers p\n", BadText, 2),
                ("workers q p\ngroup g a\nclea", BadWorkers, ("q", "p")), ("workers p\ngroup g g\n", BadShop, (("g", ("g",)),)),
                ("workers p\ngroup g a\nrun p a pass\ntell 0 -\nx", BadOutcome, None)):
            with self.assertRaises(error) as caught:
                read_torn(text)
            self.assertEqual(list(vars(caught.exception).values()), [told_value])


if __name__ == "__main__":
    unittest.main()
