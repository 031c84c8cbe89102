"""Promises [10] and [11] and the interface's part machines, with [1] as far as it speaks of them."""

import copy
import itertools
import unittest

from lanepacks.errors import NoCells, NoProgram
from lanepacks.machines import cost_of, is_program, run_program
from lanepacks.running import run
from lanepacks.words import DEEDS
from things import ODD

WORDS = ((0, 5), (1, 0, 7), (3, 0, 999, 8))
OTHERS = ((7, 7), (4, 5, 6), (2, 0, 5, 9))


def ahead(lanes):
    """Rows 0 to 7: 0 to 2 make words, 3 to 5 packs of words, 6 and 7 none."""
    return (
        ("number", 6), ("load", 0), ("plus", 0, 1),
        ("wide", "number", WORDS[lanes - 2]), ("wide", "load", 0), ("gather", (0, 1, 2, 0)[:lanes]),
        ("store", 1, 0), ("wide", "store", 0, 3),
    )


MAKES_WORD = (0, 1, 2)
MAKES_PACK = (3, 4, 5)
MAKES_NONE = (6, 7)
NOT_AHEAD = (8, 9, 399, 400, -1, -6, -8, -9)


def behind(row, lanes=2):
    return (lanes, 0, ahead(lanes) + (row, ("number", 0)))


def changed(row, at, thing):
    return row[:at] + (thing,) + row[at + 1:]


# Each kind of row that may stand behind `ahead`, with what stands at each place of it but the first.
NARROW = [(("number", 7), "n"), (("load", 3), "p")]
NARROW += [((deed, 0, 1), "ww") for deed in DEEDS]
NARROW += [
    (("pick", 0, 1, 2), "www"), (("take", 9, 0, 1), "pww"), (("store", 9, 2), "pw"), (("put", 9, 0, 1), "pww"),
]
WIDE = [(("wide", deed, 3, 4), "dPP") for deed in DEEDS]
WIDE += [
    (("wide", "pick", 3, 4, 5), "dPPP"), (("wide", "load", 3), "dp"), (("wide", "take", 9, 3, 4), "dpPP"),
    (("wide", "store", 9, 3), "dpP"), (("wide", "put", 9, 3, 4), "dpPP"),
]


def made(lanes):
    """The kinds that name lanes."""
    return [
        (("wide", "number", WORDS[lanes - 2]), "dW"), (("gather", (0, 1, 2, 0)[:lanes]), "G"),
        (("shuffle", 3, 4, (0, 5, 2, 3)[:lanes] if lanes > 2 else (0, 3)), "PPS"), (("lane", 3, lanes - 1), "PL"),
    ]


def kinds(lanes):
    return NARROW + WIDE + made(lanes)


EACH = [(lanes, row, places) for lanes in (2, 3, 4) for row, places in kinds(lanes)]


def of_places(letters):
    """Each lanes, row and place in it at which one of the letters stands."""
    for lanes, row, places in EACH:
        for at, place in enumerate(places):
            if place in letters:
                yield lanes, row, at + 1


class IsProgram(unittest.TestCase):
    def yes(self, thing):
        self.assertIs(is_program(thing), True, thing)

    def no(self, thing):
        self.assertIs(is_program(thing), False)

    def test_ordinary(self):
        for lanes in (2, 3, 4):
            self.yes((lanes, 0, ()))
            self.yes((lanes, 2, ahead(lanes)))

    def test_each_kind_of_row(self):
        for lanes, row, places in EACH:
            with self.subTest(lanes=lanes, row=row):
                self.yes(behind(row, lanes))

    def test_bounds_of_lanes(self):
        for lanes in ODD + [0, 1, 5, 6, -2, "2", [2]]:
            self.no((lanes, 0, ()))
            self.no((lanes, 0, (("number", 0),)))

    def test_bounds_of_sure(self):
        for sure in (0, 1, 63, 64):
            self.yes((2, sure, ahead(2)))
        for sure in ODD + [-1, 65, 1000, "0"]:
            self.no((2, sure, ahead(2)))

    def test_bounds_of_the_number_of_rows(self):
        for row in (("number", 0), ("wide", "number", (1, 2))):
            for many in (0, 1, 40, 41, 399, 400):
                self.yes((2, 0, (row,) * many))
            for many in (401, 402, 500):
                self.no((2, 0, (row,) * many))

    def test_the_last_row_may_name_all_ahead(self):
        words, packs = (("number", 0),) * 399, (("wide", "number", (1, 2)),) * 399
        for at in (0, 1, 39, 40, 41, 397, 398):
            self.yes((2, 0, words + (("plus", at, 398 - at),)))
            self.yes((2, 0, words + (("gather", (at, 398 - at)),)))
            self.yes((2, 0, packs + (("wide", "plus", at, 398 - at),)))
            self.yes((2, 0, packs + (("shuffle", at, 398 - at, (0, 1)),)))
            self.yes((2, 0, packs + (("lane", at, 1),)))
        self.no((2, 0, words + (("plus", 399, 0),)))
        self.no((2, 0, packs + (("wide", "plus", 399, 0),)))

    def test_bounds_of_a_place(self):
        for lanes, row, at in of_places("p"):
            with self.subTest(row=row):
                for place in (0, 1, 62, 63):
                    self.yes(behind(changed(row, at, place), lanes))
                for place in (-1, 64, 65):
                    self.no(behind(changed(row, at, place), lanes))

    def test_bounds_of_a_word(self):
        for word in (0, 1, 998, 999):
            self.yes(behind(("number", word)))
            self.yes(behind(("wide", "number", (word, 0))))
            self.yes(behind(("wide", "number", (0, 0, 0, word)), 4))
        for word in ODD + [-1, 1000, 1001]:
            self.no(behind(("number", word)))
            self.no(behind(("wide", "number", (word, 0))))
            self.no(behind(("wide", "number", (0, 0, 0, word)), 4))

    def test_bounds_of_picks(self):
        for lanes in (2, 3, 4):
            for at in range(lanes):
                for pick in range(2 * lanes):
                    self.yes(behind(("shuffle", 3, 4, changed((0,) * lanes, at, pick)), lanes))
                for pick in ODD + [-1, 2 * lanes, 2 * lanes + 1]:
                    self.no(behind(("shuffle", 3, 4, changed((0,) * lanes, at, pick)), lanes))

    def test_bounds_of_a_lane(self):
        for lanes in (2, 3, 4):
            for lane in range(lanes):
                self.yes(behind(("lane", 3, lane), lanes))
            for lane in ODD + [-1, lanes, lanes + 1]:
                self.no(behind(("lane", 3, lane), lanes))

    def test_what_must_make_a_word(self):
        for lanes, row, at in of_places("w"):
            with self.subTest(row=row, at=at):
                for good in MAKES_WORD:
                    self.yes(behind(changed(row, at, good), lanes))
                for bad in MAKES_PACK + MAKES_NONE + NOT_AHEAD:
                    self.no(behind(changed(row, at, bad), lanes))

    def test_what_must_make_a_pack(self):
        for lanes, row, at in of_places("P"):
            with self.subTest(row=row, at=at):
                for good in MAKES_PACK:
                    self.yes(behind(changed(row, at, good), lanes))
                for bad in MAKES_WORD + MAKES_NONE + NOT_AHEAD:
                    self.no(behind(changed(row, at, bad), lanes))

    def test_what_is_gathered_must_make_a_word(self):
        for lanes in (2, 3, 4):
            for at in range(lanes):
                for good in MAKES_WORD:
                    self.yes(behind(("gather", changed((0,) * lanes, at, good)), lanes))
                for bad in MAKES_PACK + MAKES_NONE + NOT_AHEAD:
                    self.no(behind(("gather", changed((0,) * lanes, at, bad)), lanes))

    def test_what_each_kind_makes(self):
        for lanes, row, places in EACH:
            with self.subTest(row=row):
                rows = ahead(lanes) + (row,)
                none = row[0] in ("store", "put") or row[:2] in (("wide", "store"), ("wide", "put"))
                pack = row[0] in ("wide", "gather", "shuffle") and not none
                self.assertIs(is_program((lanes, 0, rows + (("plus", 8, 8),))), not pack and not none)
                self.assertIs(is_program((lanes, 0, rows + (("gather", (8,) * lanes),))), not pack and not none)
                self.assertIs(is_program((lanes, 0, rows + (("wide", "plus", 8, 8),))), pack)
                self.assertIs(is_program((lanes, 0, rows + (("lane", 8, 0),))), pack)
                self.assertIs(is_program((lanes, 0, rows + (("shuffle", 8, 8, (0,) * lanes),))), pack)

    def test_tuples_of_too_many_or_too_few(self):
        for lanes, many in itertools.product((2, 3, 4), range(6)):
            for row in (("wide", "number", (0,) * many), ("gather", (0,) * many), ("shuffle", 3, 4, (0,) * many)):
                self.assertIs(is_program(behind(row, lanes)), lanes == many)

    def test_rows_too_long_or_too_short(self):
        for lanes, row, places in EACH:
            with self.subTest(row=row):
                for more in (0, 3, None, (0,) * lanes):
                    self.no(behind(row + (more,), lanes))
                for many in range(len(row)):
                    self.no(behind(row[:many], lanes))

    def test_programs_too_long_or_too_short(self):
        for thing in ((), (2,), (2, 0), (2, ()), (2, 0, (), ()), (0, 2, ()), ((), 0, 2), (2, 0, (), 0)):
            self.no(thing)

    def test_a_block_is_none(self):
        self.no((2, (("number", 5),)))

    def test_lists_in_the_stead_of_tuples(self):
        self.no([2, 0, ahead(2)])
        self.no((2, 0, list(ahead(2))))
        self.no((2, 0, []))
        for lanes, row, places in EACH:
            self.no(behind(list(row), lanes))
            for at, part in enumerate(row):
                if isinstance(part, tuple):
                    self.no(behind(changed(row, at, list(part)), lanes))

    def test_unknown_deeds(self):
        parts = [(), (0,), (3,), (0, 0), (3, 4), (0, 0, 0), (3, 4, 5), ((0, 0),), (3, 4, (0, 0))]
        for deed, rest in itertools.product(ODD + ["Wide", "wide ", "if", "last", "divide", b"wide"], parts):
            self.no(behind((deed,) + rest))
            self.no(behind(("wide", deed) + rest))
        for deed, rest in itertools.product(("wide", "gather", "shuffle", "lane"), parts):
            self.no(behind(("wide", deed) + rest))

    def test_what_is_narrow_is_not_wide_and_the_other_way_round(self):
        for row, places in NARROW:
            if "w" in places or row[0] == "number":
                self.no(behind(("wide",) + row))
        for row, places in WIDE:
            if "P" in places:
                self.no(behind(row[1:]))
        self.no(behind(("number", (1, 2))))
        self.no(behind(("wide", "number", 1)))

    def test_truths_in_the_stead_of_numbers(self):
        for lanes, row, places in EACH:
            for at, truth in itertools.product(range(1, len(row)), (True, False)):
                self.no(behind(changed(row, at, truth), lanes))
                if isinstance(row[at], tuple):
                    for spot in range(lanes):
                        self.no(behind(changed(row, at, changed(row[at], spot, truth)), lanes))

    def test_other_kinds_at_every_place(self):
        for thing in ODD:
            self.no(thing)
            self.no(behind(thing))
            if not (isinstance(thing, tuple) and thing == ()):
                self.no((2, 0, thing))
            for lanes, row, places in EACH:
                for at in range(len(row)):
                    self.no(behind(changed(row, at, thing), lanes))
                    if isinstance(row[at], tuple):
                        for spot in range(lanes):
                            self.no(behind(changed(row, at, changed(row[at], spot, thing)), lanes))

    def test_a_bad_row_anywhere(self):
        for at, bad in itertools.product(range(8), (None, (), ("number",), ("wide",), ("plus", 8, 8), ("gather", ()))):
            self.no((2, 0, changed(ahead(2), at, bad)))

    def test_what_is_handed_in_stays(self):
        thing = [2, 0, [["wide", "number", [1, 2]]]]
        kept = copy.deepcopy(thing)
        self.no(thing)
        self.no(behind(("gather", thing)))
        self.assertEqual(thing, kept)


# Behind each lanes' rows 0 and 1, the packs WORDS and OTHERS: what a wide deed makes, lane by lane.
DONE_WIDE = [
    ("plus", [(7, 12), (5, 5, 13), (5, 0, 4, 17)]),
    ("minus", [(993, 998), (997, 995, 1), (1, 0, 994, 999)]),
    ("times", [(0, 35), (4, 0, 42), (6, 0, 995, 72)]),
    ("least", [(0, 5), (1, 0, 6), (2, 0, 5, 8)]),
    ("most", [(7, 7), (4, 5, 7), (3, 0, 999, 9)]),
    ("less", [(1, 1), (1, 1, 0), (0, 0, 0, 1)]),
]


def seen(lanes, rows, cells=()):
    """The pack of words that the last one of rows makes, stored into cells behind those handed in."""
    many = len(cells)
    told = run_program((lanes, 0, tuple(rows) + (("wide", "store", many, len(rows) - 1),)), list(cells) + [0] * lanes)
    return (tuple(told[0][many:]), told[0][:many], told[1])


def both(lanes):
    return [("wide", "number", WORDS[lanes - 2]), ("wide", "number", OTHERS[lanes - 2])]


class Running(unittest.TestCase):
    def packs(self, lanes, row, words, cells=()):
        self.assertEqual(seen(lanes, both(lanes) + [row], cells), (words, list(cells), None))

    def test_without_rows(self):
        self.assertEqual(run_program((2, 0, ()), []), ([], None))
        self.assertEqual(run_program((4, 2, ()), [8, 9, 7]), ([8, 9, 7], None))

    def test_narrow_rows_run_like_a_block(self):
        rows = [("number", 5), ("number", 0), ("load", 0), ("load", 1)]
        rows += [(deed, 2, 3) for deed in DEEDS] + [("pick", 1, 2, 3), ("pick", 0, 2, 3)]
        rows += [("take", 2, 0, 3), ("take", 9, 1, 3), ("put", 2, 0, 0), ("put", 3, 0, 1), ("put", 9, 0, 1)]
        rows += [("store", 3 + at, name) for at, name in enumerate(list(range(4, 13)) + [13, 14])]
        for cells in ([17, 5] + [0] * 20, [999, 999] + [3] * 20, [5, 0] + [1] * 20, [8, 3, 1, 4], [8], []):
            then, fault = run((0, tuple(rows)), cells)
            for lanes in (2, 3, 4):
                told = run_program((lanes, 0, tuple(rows)), cells)
                self.assertEqual(told, (then, fault and (fault[0], None, fault[1])))

    def test_wide_number(self):
        for lanes in (2, 3, 4):
            self.packs(lanes, ("wide", "number", OTHERS[lanes - 2]), OTHERS[lanes - 2])

    def test_wide_deeds_of_two_words(self):
        for deed, words in DONE_WIDE:
            for lanes in (2, 3, 4):
                with self.subTest(deed=deed, lanes=lanes):
                    self.packs(lanes, ("wide", deed, 0, 1), words[lanes - 2])

    def test_wide_over(self):
        self.packs(2, ("wide", "over", 0, 1), (0, 0))
        self.packs(3, ("wide", "over", 0, 1), (0, 0, 1))
        self.packs(2, ("wide", "over", 1, 1), (1, 1))

    def test_wide_pick(self):
        self.packs(2, ("wide", "pick", 0, 0, 1), (7, 5))
        self.packs(2, ("wide", "pick", 0, 1, 0), (0, 7))
        self.packs(3, ("wide", "pick", 0, 1, 0), (4, 0, 6))
        self.packs(4, ("wide", "pick", 1, 0, 1), (3, 0, 999, 8))
        self.packs(4, ("wide", "pick", 0, 1, 0), (2, 0, 5, 9))

    def test_wide_load(self):
        cells = (10, 20, 30, 40, 50)
        for lanes in (2, 3, 4):
            for place in range(6 - lanes):
                self.packs(lanes, ("wide", "load", place), cells[place:place + lanes], cells)

    def test_wide_take(self):
        cells = (10, 20, 30, 40, 50)
        self.packs(2, ("wide", "take", 1, 0, 1), (7, 30), cells)
        self.packs(3, ("wide", "take", 1, 0, 1), (20, 5, 40), cells)
        self.packs(4, ("wide", "take", 0, 0, 1), (10, 0, 30, 40), cells)
        self.packs(4, ("wide", "take", 1, 1, 0), (20, 0, 40, 50), cells)

    def test_wide_store(self):
        for lanes in (2, 3, 4):
            for place in range(3):
                rows = both(lanes) + [("wide", "store", place, 1)]
                cells = [10, 20, 30, 40, 50, 60]
                then = cells[:place] + list(OTHERS[lanes - 2]) + cells[place + lanes:]
                self.assertEqual(run_program((lanes, 0, tuple(rows)), cells), (then, None))

    def test_wide_put(self):
        cells = [10, 20, 30, 40, 50]
        for lanes, row, then in (
            (2, ("wide", "put", 1, 1, 0), [10, 20, 7, 40, 50]), (2, ("wide", "put", 1, 0, 1), [10, 0, 5, 40, 50]),
            (3, ("wide", "put", 0, 1, 0), [4, 20, 6, 40, 50]), (4, ("wide", "put", 1, 1, 0), [10, 2, 30, 5, 9]),
            (4, ("wide", "put", 0, 0, 1), [3, 20, 999, 8, 50]),
        ):
            self.assertEqual(run_program((lanes, 0, tuple(both(lanes) + [row])), cells), (then, None))

    def test_gather(self):
        rows = [("number", 4), ("load", 0), ("plus", 0, 1)]
        for lanes in (2, 3, 4):
            for names in itertools.product(range(3), repeat=lanes):
                told = seen(lanes, rows + [("gather", names)], (8,))
                self.assertEqual(told, (tuple([(4, 8, 12)[name] for name in names]), [8], None))

    def test_shuffle(self):
        for lanes in (2, 3, 4):
            words = WORDS[lanes - 2] + OTHERS[lanes - 2]
            for picks in itertools.product(range(2 * lanes), repeat=lanes):
                if lanes == 4 and sum(picks) not in (0, 9, 14, 28):
                    continue
                self.packs(lanes, ("shuffle", 0, 1, picks), tuple([words[pick] for pick in picks]))
            self.packs(lanes, ("shuffle", 1, 1, tuple(range(lanes, 2 * lanes))), OTHERS[lanes - 2])
            self.packs(lanes, ("shuffle", 1, 0, tuple(range(lanes, 2 * lanes))), WORDS[lanes - 2])

    def test_shuffle_of_packs_that_were_made_otherwise(self):
        rows = [("wide", "number", (1, 2)), ("wide", "load", 0), ("lane", 1, 0), ("gather", (2, 2)),
                ("wide", "plus", 0, 1), ("shuffle", 0, 1, (2, 0))]
        words = [(1, 2), (8, 9), None, (8, 8), (9, 11), (8, 1)]
        packs = [row for row in range(6) if words[row] is not None]
        for p, q in itertools.product(packs, packs):
            told = seen(2, rows + [("shuffle", p, q, (1, 2))], (8, 9))
            self.assertEqual(told, ((words[p][1], words[q][0]), [8, 9], None))

    def test_lane(self):
        for lanes in (2, 3, 4):
            for lane in range(lanes):
                rows = both(lanes) + [("lane", 1, lane), ("store", 0, 2)]
                self.assertEqual(run_program((lanes, 0, tuple(rows)), [1]), ([OTHERS[lanes - 2][lane]], None))

    def test_rows_are_done_in_order(self):
        rows = (("wide", "load", 0), ("wide", "plus", 0, 0), ("wide", "store", 1, 1), ("wide", "load", 0),
                ("lane", 3, 1), ("plus", 4, 4), ("store", 0, 5))
        self.assertEqual(run_program((2, 3, rows), [3, 4, 5]), ([12, 6, 8], None))

    def test_cells_that_are_read_lane_by_lane_are_not_written_meanwhile(self):
        rows = (("wide", "load", 0), ("wide", "store", 1, 0))
        self.assertEqual(run_program((3, 4, rows), [1, 2, 3, 4]), ([1, 1, 2, 3], None))

    def test_four_hundred_rows(self):
        rows = (("number", 1),) + tuple([("plus", at, 0) for at in range(398)]) + (("store", 0, 398),)
        self.assertEqual(run_program((2, 1, rows), [0]), ([399], None))


class Faults(unittest.TestCase):
    def faults(self, lanes, rows, cells, then, fault):
        # What is behind the fault would be seen in cell 0.
        rows = tuple(rows) + (("number", 77), ("store", 0, len(rows)))
        self.assertEqual(run_program((lanes, 0, rows), cells), (then, fault))

    def test_narrow_rows(self):
        for row in (("load", 2), ("take", 2, 0, 1), ("store", 2, 1), ("put", 2, 1, 0)):
            self.faults(2, [("number", 1), ("number", 0), row], [8, 9], [8, 9], (2, None, "beyond"))
        self.faults(2, [("number", 1), ("number", 0), ("over", 0, 1)], [8, 9], [8, 9], (2, None, "nought"))

    def test_wide_load(self):
        for lanes in (2, 3, 4):
            for place in range(6):
                cells = [5, 6, 7, 8, 9][:5]
                lane = max(5 - place, 0)
                if lane < lanes:
                    self.faults(lanes, [("wide", "load", place)], cells, cells, (0, lane, "beyond"))

    def test_wide_store_leaves_what_the_lanes_ahead_have_done(self):
        words = (1, 2, 3, 4)
        for lanes in (2, 3, 4):
            for many in range(1, lanes):
                rows = [("wide", "number", words[:lanes]), ("wide", "store", 3, 0)]
                cells = [9] * (3 + many)
                self.faults(lanes, rows, cells, [9, 9, 9] + list(words[:many]), (1, many, "beyond"))
            rows = [("wide", "number", words[:lanes]), ("wide", "store", 3, 0)]
            self.faults(lanes, rows, [9, 9, 9], [9, 9, 9], (1, 0, "beyond"))

    def test_wide_take_and_put_touch_a_cell_only_where_r_is_not_nought(self):
        numbers = [("wide", "number", (1, 2, 3, 4)), ("wide", "number", (5, 0, 1, 0))]
        cells = [10, 20, 30, 40, 50, 60]
        for place, lane in ((3, None), (4, 2), (5, 2), (6, 0)):
            fault = None if lane is None else (2, lane, "beyond")
            for row in (("wide", "take", place, 1, 0), ("wide", "put", place, 0, 1)):
                then = list(cells)
                if row[1] == "put":
                    for at, word in ((0, 1), (2, 3)):
                        if place + at < 6:
                            then[place + at] = word
                rows = tuple(numbers + [row])
                self.assertEqual(run_program((4, 0, rows), cells), (then, fault), row)

    def test_wide_over(self):
        for words, lane in (((0, 1, 2, 3), 0), ((1, 0, 2, 0), 1), ((1, 2, 3, 0), 3)):
            rows = [("wide", "number", (9, 8, 7, 6)), ("wide", "number", words), ("wide", "over", 0, 1)]
            self.faults(4, rows, [5, 6], [5, 6], (2, lane, "nought"))

    def test_over_of_nought_is_no_fault(self):
        rows = (("wide", "number", (0, 0)), ("wide", "number", (1, 999)), ("wide", "over", 0, 1),
                ("wide", "store", 0, 2))
        self.assertEqual(run_program((2, 0, rows), [5, 6]), ([0, 0], None))

    def test_cells_whose_number_goes_above_63(self):
        for lanes in (2, 3, 4):
            cells = list(range(64))
            words = (101, 102, 103, 104)[:lanes]
            for place in range(64 - lanes + 1, 64):
                many = 64 - place
                numbers = [("wide", "number", words)]
                self.faults(lanes, numbers + [("wide", "load", place)], cells, cells, (1, many, "beyond"))
                then = cells[:place] + list(words[:many])
                self.faults(lanes, numbers + [("wide", "store", place, 0)], cells, then, (1, many, "beyond"))
                self.faults(lanes, numbers + [("wide", "put", place, 0, 0)], cells, then, (1, many, "beyond"))
                self.faults(lanes, numbers + [("wide", "take", place, 0, 0)], cells, cells, (1, many, "beyond"))
            fits = (lanes, 64, (("wide", "number", words), ("wide", "store", 64 - lanes, 0)))
            self.assertEqual(run_program(fits, cells), (cells[:64 - lanes] + list(words), None))
        kept = (2, 64, (("wide", "number", (7, 0)), ("wide", "put", 63, 0, 0), ("wide", "take", 63, 0, 0)))
        self.assertEqual(run_program(kept, [1] * 64), ([1] * 63 + [7], None))

    def test_the_first_of_several_faults(self):
        rows = [("wide", "load", 1), ("wide", "number", (1, 0)), ("wide", "over", 1, 1)]
        self.faults(2, rows, [5, 6], [5, 6], (0, 1, "beyond"))
        self.faults(2, rows, [5, 6, 7], [5, 6, 7], (2, 1, "nought"))

    def test_what_is_ahead_of_a_fault_is_done(self):
        rows = [("wide", "number", (1, 2)), ("wide", "store", 1, 0), ("wide", "store", 2, 0)]
        self.faults(2, rows, [9, 9, 9], [9, 1, 1], (2, 1, "beyond"))


class CostOf(unittest.TestCase):
    def test_each_kind_of_row(self):
        for lanes, row, places in EACH:
            rows = ahead(lanes)
            many = 0 if row[0] == "number" or row[:2] == ("wide", "number") else lanes if row[0] == "gather" else 1
            with self.subTest(lanes=lanes, row=row):
                self.assertEqual(cost_of((lanes, 0, rows + (row,))) - cost_of((lanes, 0, rows)), many)

    def test_whole_programs(self):
        self.assertEqual(cost_of((2, 0, ())), 0)
        self.assertEqual(cost_of((2, 0, (("number", 5), ("wide", "number", (1, 2))))), 0)
        # load, plus, wide load, gather, store, wide store.
        for lanes in (2, 3, 4):
            self.assertEqual(cost_of((lanes, 64, ahead(lanes))), 1 + 1 + 1 + lanes + 1 + 1)
        self.assertEqual(cost_of((2, 0, (("load", 0),) * 400)), 400)
        self.assertEqual(cost_of((4, 0, (("load", 0),) + (("gather", (0, 0, 0, 0)),) * 399)), 1 + 4 * 399)
        self.assertIs(type(cost_of((2, 0, ()))), int)


class Refused(unittest.TestCase):
    WRONG = ODD + [
        [2, 0, ()], (2, 0, []), (2, 0), (5, 0, ()), (1, 0, ()), (True, 0, ()), (2, 65, ()), (2, False, ()),
        (2, 0, (("plus", 0, 0),)), (2, 0, (("number", 0),) * 401), (2, 0, (("wide", "number", [1, 2]),)),
    ]

    def test_no_program(self):
        for thing in self.WRONG:
            with self.assertRaises(NoProgram):
                run_program(thing, [1, 2, 3])
            with self.assertRaises(NoProgram):
                cost_of(thing)

    def test_no_cells(self):
        for sure in (1, 2, 64):
            program = (2, sure, ())
            self.assertEqual(run_program(program, [0] * sure), ([0] * sure, None))
            self.assertEqual(run_program(program, [0] * 64), ([0] * 64, None))
            for cells in ([], [0] * (sure - 1), [0] * 65, [1000] * sure, [-1] * sure, (0,) * sure, [True] * sure):
                with self.assertRaises(NoCells):
                    run_program(program, cells)
        for thing in ODD + [1000, -1]:
            with self.assertRaises(NoCells):
                run_program((2, 0, ()), [1, thing])
            if not isinstance(thing, list):
                with self.assertRaises(NoCells):
                    run_program((2, 0, ()), thing)
        self.assertEqual(run_program((2, 0, ()), [0, 999]), ([0, 999], None))

    def test_no_program_comes_ahead_of_no_cells(self):
        for thing, cells in itertools.product(self.WRONG, (None, (), [1000], [0] * 65)):
            with self.assertRaises(NoProgram):
                run_program(thing, cells)


class NothingIsKept(unittest.TestCase):
    PROGRAM = (2, 2, (("wide", "load", 0), ("wide", "plus", 0, 0), ("wide", "store", 1, 1)))

    def test_what_is_handed_in_stays(self):
        program = copy.deepcopy(self.PROGRAM)
        for cells in ([3, 4, 5], [3, 4]):
            kept = list(cells)
            run_program(program, cells)
            self.assertEqual(cells, kept)
        self.assertEqual(program, self.PROGRAM)

    def test_new_lists_each_time(self):
        for program in (self.PROGRAM, (3, 0, ())):
            cells = [3, 4, 5]
            first, second = run_program(program, cells), run_program(program, cells)
            self.assertEqual(first, second)
            self.assertIs(type(first), tuple)
            self.assertIs(type(first[0]), list)
            self.assertIsNot(first[0], second[0])
            self.assertIsNot(first[0], cells)
            first[0].append(1)
            self.assertEqual(run_program(program, cells), second)

    def test_the_kind_of_a_fault(self):
        fault = run_program(self.PROGRAM, [3, 4])[1]
        self.assertIs(type(fault), tuple)
        self.assertEqual(fault, (2, 1, "beyond"))


if __name__ == "__main__":
    unittest.main()
