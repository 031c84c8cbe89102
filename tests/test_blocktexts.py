"""Promise [21] and the interface's part blocktexts, with [1] as far as it speaks of it."""

import itertools
import random
import unittest

from lanepacks.blocktexts import read, read_plan, shown, shown_plan
from lanepacks.errors import NoBlock, NoLanes, NoPlan, NoText
from lanepacks.words import DEEDS
from things import NO_BLOCKS, NO_LANES, ODD, any_block, is_empty_tuple

LINE = "sure 2; load 0; number 5; plus 0 1; store 1 2"
BLOCK = (2, (("load", 0), ("number", 5), ("plus", 0, 1), ("store", 1, 2)))

# A block that has each kind of row.
EACH = (64, (
    ("number", 999), ("load", 63), ("take", 10, 0, 1), ("store", 9, 2), ("put", 0, 1, 2), ("pick", 0, 1, 2),
) + tuple([(deed, 0, 1) for deed in DEEDS]))
EACH_TEXT = (
    "sure 64; number 999; load 63; take 10 0 1; store 9 2; put 0 1 2; pick 0 1 2; plus 0 1; minus 0 1; times 0 1; "
    "least 0 1; most 0 1; less 0 1; over 0 1"
)

# Digits of other scripts, one that stands above the line, and a half.
OTHER_DIGITS = ["\u0661", "\u0665", "\u0966", "\uff15", "\u00b2", "\u2460", "\u00bd"]


class Shown(unittest.TestCase):
    def check(self, block, text):
        told = shown(block)
        self.assertIs(type(told), str)
        self.assertEqual(told, text)
        self.assertEqual(read(told), block)

    def test_the_documents_own_line(self):
        self.check(BLOCK, LINE)

    def test_no_rows(self):
        for sure in (0, 7, 64):
            self.check((sure, ()), f"sure {sure}")

    def test_each_kind_of_row(self):
        self.check(EACH, EACH_TEXT)

    def test_forty_rows(self):
        self.check((0, (("number", 0),) * 40), "sure 0" + "; number 0" * 40)

    def test_by_dice(self):
        dice = random.Random(21)
        seen = set()
        for turn in range(400):
            block = any_block(dice, 40, places=64)
            block = (dice.randint(0, 64), block[1])
            text = shown(block)
            self.assertEqual(read(text), block)
            self.assertEqual(shown(read(text)), text)
            seen.add(text)
        self.assertGreater(len(seen), 300)

    def test_no_block(self):
        for thing in NO_BLOCKS:
            with self.assertRaises(NoBlock):
                shown(thing)


class Read(unittest.TestCase):
    def no(self, thing):
        with self.assertRaises(NoText):
            read(thing)

    def test_kinds(self):
        told = read(LINE)
        self.assertEqual(told, BLOCK)
        self.assertIs(type(told), tuple)
        self.assertIs(type(told[0]), int)
        self.assertIs(type(told[1]), tuple)
        for row in told[1]:
            self.assertIs(type(row), tuple)
            self.assertEqual([type(part) for part in row[1:]], [int] * (len(row) - 1))

    def test_a_sign_put_in(self):
        for text in (LINE, "sure 2", "sure 64; number 999"):
            for at in range(len(text) + 1):
                for sign in " ;.,+-_\n\t\r\x00aS":
                    self.only_shown(text[:at] + sign + text[at:])
                for sign in "019":
                    self.only_shown(text[:at] + sign + text[at:])

    def test_a_sign_left_out(self):
        for at in range(len(LINE)):
            self.only_shown(LINE[:at] + LINE[at + 1:])

    def test_a_sign_exchanged(self):
        for at in range(len(LINE)):
            for sign in " ;:,+-_0123456789\n\tasSlL":
                self.only_shown(LINE[:at] + sign + LINE[at + 1:])

    def only_shown(self, text):
        """A text is refused, unless it is just what a block is written as."""
        try:
            block = read(text)
        except NoText:
            return
        self.assertEqual(shown(block), text)

    def test_blanks_more_and_fewer(self):
        for text in (" " + LINE, LINE + " ", LINE.replace("; ", ";"), LINE.replace("; ", ";  "), LINE.replace("; ", " ; "),
                     LINE.replace(" ", "  "), LINE.replace(" ", ""), LINE.replace(" ", "\t"), LINE.replace("; ", ";\n"),
                     LINE + "\n", "\n" + LINE, LINE.replace("plus 0 1", "plus 0  1"), LINE.replace("plus 0 1", "plus 01"),
                     LINE.replace(" ", "\u00a0"), LINE.replace("load 0", "load  0")):
            self.no(text)

    def test_semicolons(self):
        for text in (LINE + ";", LINE + "; ", "; " + LINE, ";" + LINE, "sure 2;", "sure 2; ", "sure 2; ; load 0", "sure 2;; load 0",
                     LINE.replace(";", ","), LINE.replace("; ", " ")):
            self.no(text)

    def test_a_zero_ahead_of_a_number(self):
        for text in ("sure 02", "sure 00", "sure 2; load 00", "sure 2; load 01", "sure 2; number 05", "sure 2; number 000",
                     "sure 2; number 1; plus 00 0", "sure 064"):
            self.no(text)
        self.assertEqual(read("sure 0; load 0; number 0"), (0, (("load", 0), ("number", 0))))

    def test_a_plus_or_minus_ahead(self):
        for sign in "+-":
            for text in ("sure {}2", "sure 2; load {}0", "sure 2; load {}1", "sure 2; number {}5", "sure 2; number 1; plus {}0 0"):
                self.no(text.format(sign))

    def test_digits_of_other_scripts(self):
        for digit in OTHER_DIGITS:
            for text in ("sure {}", "sure 2; load {}", "sure 2; number {}", "sure 2; number 1{}", "sure 2; number 1; plus {} 0"):
                self.no(text.format(digit))

    def test_other_ways_to_write_a_number(self):
        for word in ("0x1", "1_0", "1.0", "1e1", "0b1", "five", "True", "None", "", "1" * 4, "1" * 5000, "0" * 5000):
            self.no(f"sure {word}")
            self.no(f"sure 2; number {word}")
            self.no(f"sure 2; load {word}")

    def test_an_empty_text(self):
        self.no("")
        self.no(" ")
        self.no("\n")

    def test_what_is_no_block(self):
        for text in ("sure 65", "sure 1000", "sure 999", "sure", "sure ", "sure 2 2", "Sure 2", "sur 2", "load 0", "2", "2; load 0",
                     "sure 2; load 64", "sure 2; number 1000", "sure 2; plus 0 0", "sure 2; number 1; plus 0 1",
                     "sure 2; number 1; plus 0", "sure 2; number 1; plus 0 0 0", "sure 2; number", "sure 2; 5", "sure 2; jump 5",
                     "sure 2; number 1; store 0 0; plus 1 0", "sure 2; sure 2", "sure 2; Load 0", "sure 2; load 0; LOAD 0",
                     "sure 2; wide load 0", "sure 0" + "; number 0" * 41, "load 0; sure 2", "sure 2; load", "sure 2; load 0 0"):
            self.no(text)

    def test_things_that_are_no_texts(self):
        for thing in ODD:
            self.no(thing)
        for thing in (LINE.encode(), [LINE], (LINE,), BLOCK, list(LINE), 5, 0):
            self.no(thing)


class ShownPlan(unittest.TestCase):
    def check(self, plan, text):
        told = shown_plan(plan)
        self.assertIs(type(told), str)
        self.assertEqual(told, text)
        lanes = [len(plan[0])] if plan else [2, 3, 4]
        for many in lanes:
            self.assertEqual(read_plan(told, many), plan)

    def test_no_pack_one_and_several(self):
        self.check((), "")
        self.check(((0, 3),), "0+3")
        self.check(((0, 3), (1, 4), (2, 5)), "0+3 1+4 2+5")
        self.check(((0, 1, 2),), "0+1+2")
        self.check(((0, 1, 2, 39), (3, 10, 20, 38)), "0+1+2+39 3+10+20+38")
        self.check(tuple([(at, at + 20) for at in range(20)]), " ".join([f"{at}+{at + 20}" for at in range(20)]))

    def no(self, thing):
        with self.assertRaises(NoPlan):
            shown_plan(thing)

    def test_rows_not_rising(self):
        for plan in (((3, 0),), ((0, 0),), ((0, 2, 1),), ((0, 1, 1),), ((1, 0, 2, 3),), ((4, 5), (7, 6))):
            self.no(plan)

    def test_packs_not_rising(self):
        for plan in (((1, 4), (0, 3)), ((0, 3), (2, 5), (1, 4)), ((0, 3), (0, 3))):
            self.no(plan)

    def test_a_row_twice(self):
        for plan in (((0, 3), (3, 4)), ((0, 3), (1, 3)), ((0, 3), (0, 4)), ((0, 1, 2), (2, 3, 4)), ((0, 9), (1, 5), (2, 9))):
            self.no(plan)

    def test_numbers_above_39_and_below_0(self):
        self.check(((38, 39),), "38+39")
        for plan in (((39, 40),), ((0, 40),), ((-1, 0),), ((0, 1000),), ((0, 10 ** 40),), ((0, 1), (2, 40))):
            self.no(plan)

    def test_other_numbers_of_lanes(self):
        for plan in (((),), ((0,),), ((0, 1, 2, 3, 4),), ((0, 1), (2, 3, 4)), ((0, 1, 2), (3, 4)), ((0, 1), (2,)), ((0,), (1,))):
            self.no(plan)

    def test_other_kinds(self):
        for plan in ([], [(0, 1)], ([0, 1],), ((0, 1), [2, 3]), (0, 1), ((False, 1),), ((0, True),), ("01",), ("0+1",), ((0, "1"),)):
            self.no(plan)
        for thing in ODD:
            if not is_empty_tuple(thing):
                self.no(thing)
            self.no((thing,))
            self.no(((0, 1), thing))
            self.no(((0, thing),))
            self.no(((thing, 1),))


class ReadPlan(unittest.TestCase):
    def no(self, text, lanes=2):
        with self.assertRaises(NoText):
            read_plan(text, lanes)

    def test_kinds(self):
        told = read_plan("0+3 1+4", 2)
        self.assertEqual(told, ((0, 3), (1, 4)))
        self.assertIs(type(told), tuple)
        for pack in told:
            self.assertIs(type(pack), tuple)
            self.assertEqual({type(row) for row in pack}, {int})

    def test_an_empty_text_is_no_pack(self):
        for lanes in (2, 3, 4):
            self.assertEqual(read_plan("", lanes), ())

    def test_another_number_of_lanes(self):
        texts = {2: "0+1", 3: "0+1+2", 4: "0+1+2+3", 1: "0", 5: "0+1+2+3+4"}
        for lanes, (many, text) in itertools.product((2, 3, 4), texts.items()):
            if lanes == many:
                self.assertEqual(read_plan(text, lanes), (tuple(range(many)),))
            else:
                self.no(text, lanes)
        self.no("0+1 2+3+4", 2)
        self.no("0+1 2+3+4", 3)

    def test_rows_and_packs_not_rising(self):
        for text in ("3+0", "0+0", "1+4 0+3", "0+3 0+3", "0+3 3+4", "0+3 1+3", "10+9", "2+1"):
            self.no(text)
        # As numbers, not as texts.
        self.assertEqual(read_plan("9+10", 2), ((9, 10),))
        self.assertEqual(read_plan("2+9 10+11", 2), ((2, 9), (10, 11)))
        self.no("10+11 2+9")

    def test_numbers_above_39(self):
        self.assertEqual(read_plan("38+39", 2), ((38, 39),))
        for text in ("39+40", "0+40", "0+100", "0+999", "0+1000", "0+" + "1" * 5000):
            self.no(text)

    def test_signs_put_in_left_out_and_exchanged(self):
        text = "0+3 1+14 20+25"
        for at in range(len(text) + 1):
            for sign in " +;,-_\n\t0123456789a\x00":
                self.only_shown(text[:at] + sign + text[at:])
                self.only_shown(text[:at] + sign + text[at + 1:])
            self.only_shown(text[:at] + text[at + 1:])

    def only_shown(self, text):
        try:
            plan = read_plan(text, 2)
        except NoText:
            return
        self.assertEqual(shown_plan(plan), text)

    def test_blanks_more_and_fewer(self):
        for text in (" ", " 0+3", "0+3 ", "0+3  1+4", "0 + 3", "0+ 3", "0 +3", "0+3\n", "\n", "0+31+4", "0+3\t1+4", "0+3, 1+4", "0+3\u00a01+4"):
            self.no(text)

    def test_other_ways_to_write_a_number(self):
        for word in ("03", "003", "+3", "-3", "3.0", "", "three", "0x3", "3_0", "\n3"):
            self.no(f"0+{word}")
            self.no(f"{word}+9")
        for digit in OTHER_DIGITS:
            self.no(f"0+{digit}")
            self.no(f"0+1{digit}")
        for text in ("+", "0+", "+3", "0++3", "++", "0+3+"):
            self.no(text)

    def test_things_that_are_no_texts(self):
        for thing in ODD:
            if not (isinstance(thing, str) and thing == ""):
                self.no(thing)
        for thing in (b"0+3", ["0+3"], ("0+3",), ((0, 3),), (), [], 3, 0):
            self.no(thing)

    def test_no_lanes_comes_first(self):
        for lanes, text in itertools.product(NO_LANES, ("", "0+3", "3+0", None, ODD[-3])):
            with self.assertRaises(NoLanes):
                read_plan(text, lanes)


if __name__ == "__main__":
    unittest.main()
