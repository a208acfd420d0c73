"""Point 8: the text of a glass, line for line."""

import unittest

from spoilorder.errors import BadShop, BadText
from spoilorder.glasses import Glass
from tests.common import any_values

# Each kind of line, as deep and as often as can be.
WHOLE = """\
cell c ok bad
shared d ok bad worse
cell e ok bad
group g
  open
    set c ok
    want c ok
  close
    if c = bad
      set c ok
      if d = worse
        copy c to e
      else
        set d ok
    else
      set d bad
  check a 1
  check a 2
    set c bad
    fail
  check b 9
    if c = ok
      want d ok
group h
  check v 1
    copy e to c
group open
  close
    set d bad
  check cell 3"""
CELLS = ["cell c ok bad", "shared d ok bad worse"]
GROUP = ["group g", "  check a 1"]
KEPT = ["cell", "shared", "group", "open", "close", "check", "set", "copy", "to", "want", "fail", "if", "else"]
NO_NAMES = ["", "A", "a1", "abcdefghi", "a-b", "a_b", "1", "a.", "aB", "#"]


class TextsTest(unittest.TestCase):
    def right(self, *lines):
        glass = Glass("\n".join(lines))
        self.assertEqual(glass.text, "\n".join(lines))
        return glass

    def wrong(self, number, *lines):
        text = "\n".join(lines)
        for call in (lambda: Glass(text), lambda: Glass(text=text)):
            with self.assertRaises(BadText) as caught:
                call()
            self.assertEqual((caught.exception.line, caught.exception.line.__class__), (number, int), text)

    def below_check(self, *lines):
        """Commands of check a: the glass, and the number of the first of their lines."""
        return CELLS + GROUP + list(lines)

    def test_whole(self):
        glass = Glass(WHOLE)
        self.assertEqual(glass.text, WHOLE)
        self.assertEqual(glass.shop.groups, (("g", ("a", "b")), ("h", ("v",)), ("open", ("cell",))))
        self.assertEqual(glass.all_items, (("a", 1), ("a", 2), ("b", 9), ("cell", 3), ("v", 1)))
        self.assertEqual(glass.things, (
            ("a", 1), ("a", 2), ("b", 9), ("cell", 3), ("g", 0), ("h", 0), ("open", 0), ("v", 1)))
        self.assertEqual(glass.cells, (
            ("c", ("ok", "bad"), False), ("d", ("ok", "bad", "worse"), True), ("e", ("ok", "bad"), False)))
        self.assertEqual([cell[2].__class__ for cell in glass.cells], [bool] * 3)

    def test_least(self):
        glass = self.right(*GROUP)
        self.assertEqual((glass.cells, glass.things, glass.all_items), ((), (("a", 1), ("g", 0)), (("a", 1),)))

    def test_no_string(self):
        for value in any_values() + [WHOLE.split("\n"), (WHOLE,), WHOLE.encode()]:
            if not isinstance(value, str):
                with self.assertRaises(BadText) as caught:
                    Glass(value)
                self.assertEqual((caught.exception.line, caught.exception.line.__class__), (0, int))

    def test_strings_of_any_kind(self):
        for value in any_values():
            if isinstance(value, str):
                self.wrong(0, value)

    def test_every_line_left_out_or_twice(self):
        lines = WHOLE.split("\n")
        left_out = []
        for place in range(len(lines)):
            fewer = lines[:place] + lines[place + 1:]
            try:
                Glass("\n".join(fewer))
                left_out.append(place)
            except BadText as error:
                self.assertTrue(place <= error.line <= len(fewer), lines[place])
            more = lines[:place] + [lines[place]] + lines[place:]
            try:
                Glass("\n".join(more))
                self.assertIn(lines[place].split()[0], ("set", "want", "fail", "copy"))
            except BadText as error:
                self.assertEqual(error.line, place + 1, lines[place])
        # Commands that are not alone; else, close and checks whose commands can belong to what stands ahead of them.
        self.assertEqual(left_out, [5, 6, 7, 9, 12, 14, 16, 17, 18, 19, 20, 23, 25])

    def test_text_that_ends_too_early(self):
        lines = WHOLE.split("\n")
        for many in range(1, len(lines)):
            if many in (17, 18, 19, 20, 21, 23, 25, 26):
                self.right(*lines[:many])
            else:
                self.wrong(many, *lines[:many])

    def test_empty_text_and_lines(self):
        self.wrong(0, "")
        self.wrong(0, "", "")
        self.wrong(0, "", *GROUP)
        self.wrong(1, "cell c ok bad", "", *GROUP)
        self.wrong(1, "group g", "", "  check a 1")
        self.wrong(2, *GROUP, "")
        self.wrong(2, *GROUP, "", "group h", "  check b 1")
        self.wrong(1, "cell c ok bad", "")

    def test_blanks(self):
        for place, line in enumerate(self.below_check("    set c ok", "    if c = ok", "      fail")):
            lines = self.below_check("    set c ok", "    if c = ok", "      fail")
            for other in [line + " ", " " + line, "  " + line, "    " + line, line[1:] if line[0] == " " else line + " ",
                          line[2:] if line[0] == " " else "  " + line, line.lstrip() if line[0] == " " else "   " + line,
                          line[:len(line) - len(line.lstrip())] + line.lstrip().replace(" ", "  ", 1) + (
                              "" if " " in line.lstrip() else " "), line + "\t", line.replace(" ", "\t") + "\t", " ", "  "]:
                if other != line:
                    self.wrong(place, *(lines[:place] + [other] + lines[place + 1:]))

    def test_depth_of_commands(self):
        self.right(*self.below_check("    fail"))
        self.wrong(4, *self.below_check("      fail"))
        self.wrong(4, *self.below_check("  fail"))
        self.wrong(4, *self.below_check("fail"))
        self.wrong(5, *self.below_check("    fail", "      fail"))
        self.wrong(5, *self.below_check("    if c = ok", "    fail"))
        self.wrong(5, *self.below_check("    if c = ok", "        fail"))

    def test_words_of_lines(self):
        for line in ["", "cells c ok bad", "Cell c ok bad", "check a 1", "set c ok", "open", "else", "fail", "x", "group",
                     "group g h", "group G", "group g ", "cell", "shared", "cell c", "shared c"]:
            self.wrong(0, line, *GROUP)
        for line in ["  open x", "  close x", "  opens", "  check", "  check a", "  check a 1 1", "  check 1 a", "  check a 0",
                     "  check a 10", "  check a 01", "  check a -1", "  check a x", "  check A 1", "  check a 1.", "  group h",
                     "  cell c ok bad", "  fail", "  set c ok", "  else", "  check a 12", "  check  1", "  check a "]:
            self.wrong(1, "group g", line, "  check b 1")
        for line in ["    set c", "    set c ok bad", "    set", "    want c", "    want c ok bad", "    fail c", "    copy c",
                     "    copy c to", "    copy c c", "    copy c in c", "    copy c to c c", "    if c", "    if c = ",
                     "    if c ok", "    if c is ok", "    if c = ok bad", "    if c == ok", "    if", "    unset c ok",
                     "    else", "    open", "    check b 1", "    cell e ok bad", "    Set c ok", "    = c ok"]:
            self.wrong(4, *self.below_check(line, "      fail"))

    def test_words_of_a_cell(self):
        for kind in ("cell", "shared"):
            self.right(f"{kind} c ok bad", *GROUP)
            self.right(f"{kind} c ok bad worse", *GROUP)
            for words in ["", " ok", " ok bad worse worst", " ok ok", " ok bad ok", " ok bad bad"]:
                self.wrong(0, f"{kind} c{words}", *GROUP)
            for word in KEPT + NO_NAMES:
                self.wrong(0, f"{kind} {word} ok bad", *GROUP)
                self.wrong(0, f"{kind} c {word} bad", *GROUP)
                self.wrong(0, f"{kind} c ok {word}", *GROUP)
                self.wrong(0, f"{kind} c ok bad {word}", *GROUP)
            self.right(f"{kind} ok ok bad", *GROUP)
            self.right(f"{kind} abcdefgh abcdefgh zz", *GROUP)

    def test_cells(self):
        cells = [f"{kind} {name} ok bad" for kind, name in zip(["cell", "shared"] * 5, "cdefhijklm")]
        for many in range(9):
            self.assertEqual(len(self.right(*cells[:many], *GROUP).cells), many)
        self.wrong(8, *cells[:9], *GROUP)
        self.wrong(8, *cells, *GROUP)
        self.wrong(1, "cell c ok bad", "cell c ok bad", *GROUP)
        self.wrong(1, "cell c ok bad", "shared c lo hi", *GROUP)
        self.wrong(2, "shared c ok bad", "cell d ok bad", "cell c lo hi", *GROUP)
        # In any sequence, with names of groups and checks, too, but ahead of the groups.
        self.right("shared z ok bad", "cell g ok bad", "shared a g z", *GROUP)
        self.wrong(2, *GROUP, "cell c ok bad")

    def test_groups(self):
        groups = [line for name in "ghkm" for line in (f"group {name}", f"  check {name}c 1")]
        for many in (1, 2, 3):
            self.right(*groups[:2 * many])
        self.wrong(6, *groups)
        self.wrong(2, *GROUP, "group g", "  check b 1")
        self.wrong(2, *GROUP, "group f", "  check b 1")
        self.wrong(0, "  check a 1")
        self.wrong(1, "group g", "group h", "  check a 1")
        for word in ("grou", "groups", "open", "close", "check", "set", "fail", "Group", "g"):
            self.wrong(0, f"{word} g", "  check a 1")
            self.wrong(2, *GROUP, f"{word} h", "  check b 1")
            if word != "check":
                self.wrong(1, "group g", f"  {word} a 1")
            self.wrong(4, *self.below_check(f"    {word} c to c"))
        for word in KEPT:
            self.right(f"group {word}", f"  check {'x' + word[:7]} 1")
            self.right("group g", f"  check {word} 1")
        for word in NO_NAMES:
            self.wrong(0, f"group {word}", "  check a 1")
            self.wrong(1, "group g", f"  check {word} 1")

    def test_open_and_close(self):
        block = ["    set c ok"]
        self.right("cell c ok bad", "group g", "  open", *block, "  check a 1")
        self.right("cell c ok bad", "group g", "  close", *block, "  check a 1")
        self.right("cell c ok bad", "group g", "  open", *block, "  close", *block, "  check a 1")
        self.wrong(4, "cell c ok bad", "group g", "  close", *block, "  open", *block, "  check a 1")
        self.wrong(4, "cell c ok bad", "group g", "  open", *block, "  open", *block, "  check a 1")
        self.wrong(4, "cell c ok bad", "group g", "  close", *block, "  close", *block, "  check a 1")
        self.wrong(3, "cell c ok bad", *GROUP, "  open", *block)
        self.wrong(3, "cell c ok bad", *GROUP, "  close", *block)
        self.wrong(4, "cell c ok bad", "group g", "  open", *block, "group h", "  check a 1")
        for word in ("open", "close"):
            self.wrong(3, "cell c ok bad", "group g", f"  {word}", "  check a 1")
            self.wrong(3, "cell c ok bad", "group g", f"  {word}", "  close", *block, "  check a 1")

    def test_neither_want_nor_fail_below_close(self):
        for line in ("want c ok", "fail"):
            self.right("cell c ok bad", "group g", "  open", "    " + line, "  check a 1", "    " + line)
            self.wrong(3, "cell c ok bad", "group g", "  close", "    " + line, "  check a 1")
            self.wrong(4, "cell c ok bad", "group g", "  close", "    if c = ok", "      " + line, "  check a 1")
            lines = ["cell c ok bad", "group g", "  close", "    if c = ok", "      if c = ok"]
            self.wrong(5, *lines, "        " + line, "  check a 1")
            self.wrong(7, *lines, "        set c ok", "      else", "        " + line, "  check a 1")

    def test_checks(self):
        five = [f"  check {name} 1" for name in "abcd"] + ["  check d 2"]
        self.right("group g", *five)
        self.wrong(6, "group g", *five, "  check d 3")
        self.wrong(7, "group g", *five, "group h", "  check e 1")
        editions = [f"  check a {edition}" for edition in (1, 2, 3, 4, 5, 6, 7, 8, 9)]
        self.right("group g", *editions[:5])
        self.right("group g", *editions[4:])
        # A ninth check of a group is a sixth item long before.
        self.wrong(6, "group g", *editions[:8])
        self.wrong(6, "group g", *editions)
        for first, second in [("a 1", "a 1"), ("a 2", "a 1"), ("b 1", "a 1"), ("b 1", "a 2"), ("ab 1", "aa 1")]:
            self.wrong(2, "group g", f"  check {first}", f"  check {second}")
        self.wrong(3, "group g", "  check a 1", "  check b 1", "  check a 2")
        self.right("group g", "  check a 1", "  check a 9", "  check aa 1", "  check b 1")

    def test_commands_in_a_row(self):
        ten = ["    set c ok"] * 10
        self.right(*self.below_check(*ten))
        self.wrong(14, *self.below_check(*ten, "    set c ok"))
        self.wrong(14, *self.below_check(*ten, "    if c = ok", "      fail"))
        for word in ("open", "close"):
            self.right(*CELLS, "group g", f"  {word}", *ten, "  check a 1")
            self.wrong(14, *CELLS, "group g", f"  {word}", *ten, "    set c ok", "  check a 1")
        deeper = ["      set c ok"] * 10
        self.right(*self.below_check(*ten[:9], "    if c = ok", *deeper, "    else", *deeper))
        self.wrong(15, *self.below_check("    if c = ok", *deeper, "      set c ok"))
        self.wrong(17, *self.below_check("    if c = ok", "      fail", "    else", *deeper, "      set c ok"))
        self.wrong(17, *self.below_check(*ten[:9], "    if c = ok", "      fail", "    else", "      fail", "    fail"), "x")

    def test_depth_of_ifs(self):
        self.right(*self.below_check("    if c = ok", "      if c = bad", "        fail"))
        self.wrong(6, *self.below_check("    if c = ok", "      if c = bad", "        if d = ok", "          fail"))
        self.wrong(8, *self.below_check(
            "    if c = ok", "      fail", "    else", "      if c = ok", "        if c = ok", "          fail"))
        # One behind another there may be more of them.
        self.right(*self.below_check(*["    if c = ok", "      if c = bad", "        fail"] * 5))

    def test_else(self):
        self.right(*self.below_check("    if c = ok", "      fail", "    else", "      fail"))
        self.right(*self.below_check("    if c = ok", "      if d = ok", "        fail", "    else", "      fail"))
        self.right(*self.below_check("    if c = ok", "      if d = ok", "        fail", "      else", "        fail"))
        self.wrong(4, *self.below_check("    else", "      fail"))
        self.wrong(5, *self.below_check("    fail", "    else", "      fail"))
        self.wrong(5, *self.below_check("    if c = ok", "    else", "      fail"))
        self.wrong(6, *self.below_check("    if c = ok", "      fail", "      else", "        fail"))
        self.wrong(6, *self.below_check("    if c = ok", "      fail", "  else", "    fail"))
        self.wrong(7, *self.below_check("    if c = ok", "      fail", "    else"))
        self.wrong(7, *self.below_check("    if c = ok", "      fail", "    else", "    fail"))
        self.wrong(8, *self.below_check("    if c = ok", "      fail", "    else", "      fail", "    else", "      fail"))
        self.wrong(7, *self.below_check("    if c = ok", "      fail", "    fail", "    else", "      fail"))
        self.wrong(6, *self.below_check("    if c = ok", "      fail", "    else if", "      fail"))

    def test_what_there_is_not(self):
        for line in ["set x ok", "want x ok", "if x = ok", "set c worse", "want c worse", "if c = worse", "set c c", "set g ok",
                     "set a ok", "copy x to c", "copy c to x", "copy x to x", "set C ok", "set ok c", "if d = lo"]:
            self.wrong(4, *self.below_check("    " + line, "      fail"))
            self.wrong(5, *self.below_check("    if c = ok", "      " + line, "        fail"))
        # A cell of a line behind is there; a word is one of its own cell.
        self.right(*self.below_check("    set d worse", "    if d = worse", "      want d bad"))

    def test_copy(self):
        cells = ["cell c ok bad", "shared d ok bad", "cell e bad ok", "cell f ok bad worse", "shared h lo hi"]
        for line, right in [("c to d", True), ("d to c", True), ("c to c", True), ("c to e", False), ("c to f", False),
                            ("f to c", False), ("d to h", False), ("e to d", False), ("h to h", True)]:
            lines = cells + GROUP + ["    copy " + line]
            if right:
                self.right(*lines)
            else:
                self.wrong(7, *lines)

    def test_bad_shop(self):
        for lines, groups in [
                (["group g", "  check g 1"], (("g", ("g",)),)),
                (["group g", "  check h 1", "group h", "  check a 1"], (("g", ("h",)), ("h", ("a",)))),
                (["group g", "  check a 1", "group h", "  check a 1"], (("g", ("a",)), ("h", ("a",)))),
                (["group g", "  check a 1", "group h", "  check a 2"], (("g", ("a",)), ("h", ("a",)))),
                (["group g"] + [f"  check {name} 1" for name in "abcde"], (("g", tuple("abcde")),))]:
            with self.assertRaises(BadShop) as caught:
                Glass("\n".join(lines))
            self.assertEqual(caught.exception.value, groups)
            # A line that is wrong comes first, wherever it stands.
            self.wrong(len(lines), *lines, "")
            self.wrong(len(lines), *lines, "    want x ok")

    def test_items_count_once(self):
        # The same item in two groups is one item; so the text is right, but the groups are no shop.
        lines = ["group g"] + [f"  check {name} 1" for name in "abcd"] + ["group h", "  check a 1", "  check e 1"]
        self.assertRaises(BadShop, Glass, "\n".join(lines))
        self.wrong(8, *lines, "  check f 1")
        self.assertRaises(BadShop, Glass, "\n".join(lines + ["group k", "  check a 1"]))
        self.assertRaises(BadShop, Glass, "\n".join(lines[:6] + ["  check a 1", "  check b 1", "  check c 1"]))


class EqualTest(unittest.TestCase):
    def test_equal(self):
        self.assertTrue(Glass(WHOLE) == Glass(WHOLE))
        self.assertFalse(Glass(WHOLE) != Glass(WHOLE))
        self.assertFalse(Glass("\n".join(GROUP)) == Glass(WHOLE))
        # Another text, though it does the same.
        one, other = "\n".join(CELLS + GROUP), "\n".join(CELLS[::-1] + GROUP)
        self.assertTrue(Glass(one) != Glass(other))
        for value in any_values() + [WHOLE]:
            self.assertFalse(Glass(WHOLE) == value)
            self.assertTrue(Glass(WHOLE) != value)
            self.assertFalse(value == Glass(WHOLE))


if __name__ == "__main__":
    unittest.main()
