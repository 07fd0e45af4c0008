import unittest

import brute
from brute import COMPLETE, LOOSE, PATH, SINGLE
from cointakes.errors import InvalidText
from cointakes.layingtext import read_laying, write_laying
from exact import ExactCase


class Writing(ExactCase):
    def test_without_edges(self):
        self.same(write_laying(SINGLE, (1,)), "H")
        self.same(write_laying(SINGLE, (None,)), ".")
        self.same(write_laying(LOOSE, (0, 1, None) * 3), "TH.TH.TH.")

    def test_with_edges(self):
        self.same(write_laying(PATH, (1, 0, 1)), "HTH: 0-1 1-2")
        self.same(write_laying((2, ((0, 1),)), (None, None)), "..: 0-1")

    def test_what_is_written_is_read(self):
        for web in brute.small_webs():
            for laying in brute.any_layings(web):
                self.same(read_laying(write_laying(web, laying)), (web, laying))
        self.same(read_laying(write_laying(COMPLETE, (1,) * 9)), (COMPLETE, (1,) * 9))


class Reading(ExactCase):
    def wrong(self, text, place):
        self.fails(InvalidText, {"place": place}, read_laying, text)

    def test_spaces_where_they_may_stand(self):
        wanted = (PATH, (1, None, 0))
        for text in ("H.T:0-1 1-2", " H.T:0-1 1-2", "H .T:0-1 1-2", "H. T:0-1 1-2", "H.T :0-1 1-2", "H.T: 0-1 1-2",
                     "H.T:0-1   1-2", "H.T:0-1 1-2  ", "  H  .  T  :  0-1  1-2  "):
            self.same(read_laying(text), wanted, text)
        self.same(read_laying(" T "), (SINGLE, (0,)))

    def test_spaces_within_an_edge(self):
        self.wrong("HT:0 -1", 4)
        self.wrong("HT:0- 1", 5)
        self.wrong("HT: 0 - 1", 5)

    def test_only_spaces_are_spaces(self):
        self.wrong("H\tT", 1)
        self.wrong("HT\n", 2)
        self.wrong("HT:\u00a00-1", 3)
        self.wrong("HT: 0-1\t", 7)

    def test_text_that_ends_ahead_of_all_coins(self):
        self.wrong("", 0)
        self.wrong("   ", 3)

    def test_text_that_ends_within_an_edge(self):
        self.wrong("HT: 0", 5)
        self.wrong("HT: 0-", 6)
        self.wrong("HTH: 0-1 1", 10)
        self.wrong("HTH: 0-1 1-", 11)

    def test_text_that_ends_without_an_edge(self):
        self.wrong("HT:", 3)
        self.wrong("HT:  ", 5)
        self.wrong("H:", 2)

    def test_signs_that_are_no_coins(self):
        self.wrong("X", 0)
        self.wrong("h", 0)
        self.wrong("HTx: 0-1", 2)
        self.wrong("HT0-1", 2)
        self.wrong("HT-", 2)
        self.wrong("HT, 0-1", 2)

    def test_colon(self):
        self.wrong(":", 0)
        self.wrong("  : 0-1", 2)
        self.wrong("HT:: 0-1", 3)
        self.wrong("HT: 0-1:", 7)
        self.wrong("HT: 0-1 :", 8)

    def test_tenth_coin(self):
        self.same(read_laying("HT.HT.HT."), (LOOSE, (1, 0, None) * 3))
        self.wrong("HT.HT.HT.H", 9)
        self.wrong("HT.HT.HT. .", 10)
        self.wrong("HHHHHHHHHTX", 9)

    def test_coin_behind_the_colon(self):
        self.wrong("HT:H", 3)
        self.wrong("HT: 0-1 H", 8)

    def test_edges_that_touch(self):
        self.wrong("HTH: 0-11-2", 8)
        self.wrong("HTH: 0-1-2", 8)
        self.wrong("HTH: 0-1,1-2", 8)
        self.wrong("HTH: 0-12", 8)

    def test_signs_within_an_edge(self):
        self.wrong("HT: x-1", 4)
        self.wrong("HT: -1", 4)
        self.wrong("HT: 01", 5)
        self.wrong("HT: 0x1", 5)
        self.wrong("HT: 0-x", 6)
        self.wrong("HT: 0--1", 6)
        self.wrong("HT: \u0660-1", 4)
        self.wrong("HT: 0-\u00b2", 6)

    def test_digits_of_no_place(self):
        self.wrong("HT: 2-3", 4)
        self.wrong("HT: 0-2", 6)
        self.wrong("H: 0-1", 5)
        self.wrong("HHHHHHHHH: 0-9", 13)
        self.wrong("HTH: 0-1 3-1", 9)
        self.wrong("HTH: 0-1 1-3", 11)

    def test_second_digit_not_greater_than_the_first(self):
        self.wrong("HT: 1-0", 6)
        self.wrong("HT: 0-0", 6)
        self.wrong("HT: 1-1", 6)
        self.wrong("HTH: 0-1 1-1", 11)

    def test_edge_not_greater_than_the_one_before(self):
        self.wrong("HTH: 0-1 0-1", 9)
        self.wrong("HTH: 0-2 0-1", 9)
        self.wrong("HTH: 1-2 0-1", 9)
        self.wrong("HTH: 0-1 0-2 1-2 0-2", 17)
        self.wrong("HTH: 0-2 0-1x", 9)

    def test_first_character_of_an_edge_that_is_wrong_twice(self):
        self.wrong("HTH: 1-2 0-0", 9)
        self.wrong("HTH: 1-2 0-7", 9)
        self.wrong("HTH: 1-2 1-0", 11)
        self.wrong("HTH: 1-2 1-1", 11)
        self.wrong("HTH: 1-2 1-2x", 9)

    def test_first_digit_less_than_that_of_the_edge_before(self):
        for rest in ("", "-", "x", " -1", "-x", "-0", "-1", "-2", "-7", "1"):
            self.wrong("HTH: 1-2 0" + rest, 9)
            self.wrong("HTHH: 0-1 2-3 1" + rest, 14)
        self.wrong("HTHHTH: 2-4 1-5", 12)

    def test_first_digit_that_no_greater_edge_has(self):
        for start, digit, at in (("HTH: 1-2 ", "1", 9), ("HTHH: 0-3 ", "0", 10), ("HT: 0-1 ", "0", 8), ("HTH: 1-2 ", "2", 9)):
            for rest in ("", "x", " ", " -1", "1", ":"):
                self.wrong(start + digit + rest, at + 1)
            for rest in ("-", "-x", "- 2", "-" + digit, "-9", "--"):
                self.wrong(start + digit + rest, at + 2)
        self.wrong("HT: 0-1 0-2", 10)
        self.wrong("HTH: 1-2 1-3", 11)
        self.wrong("HT: 0-1 1-0", 10)
        self.wrong("HTH: 0-2 0-0", 11)

    def test_whole_edge_that_is_not_greater(self):
        self.wrong("HTH: 1-2 1-2", 9)
        self.wrong("HT: 0-1 0-1", 8)
        self.wrong("HTH: 0-2 0-1", 9)
        self.wrong("HTHH: 0-3 0-2", 10)

    def test_unfinished_edge_whose_first_digit_can_stand(self):
        self.wrong("HTH: 0-1 0", 10)
        self.wrong("HTH: 0-1 0-", 11)
        self.wrong("HTH: 0-1 0x", 10)
        self.wrong("HTH: 0-1 0-x", 11)
        self.wrong("HTH: 0-1 0 -2", 10)
        self.wrong("HTH: 1-2 2", 10)
        self.wrong("HTH: 1-2 2-", 11)

    def test_second_digit_behind_another_edge(self):
        self.wrong("TTT.T.H: 0-5 1-6 2-4 2-05 3-5 5-6", 23)
        self.wrong("HTHHTH: 2-4 2-0", 14)
        self.wrong("HTHHTH: 2-4 2-2", 14)
        self.wrong("HTHHTH: 2-4 2-6", 14)
        self.wrong("HTHHTH: 2-4 2-9", 14)
        self.wrong("HTH: 1-2 2-0", 11)
        self.wrong("HTH: 1-2 2-2", 11)
        self.wrong("HTHHTH: 2-4 2-3", 12)
        self.wrong("HTHHTH: 2-4 2-3x", 12)
        self.wrong("HTHHTH: 2-4 2-4", 12)
        self.wrong("HTHHTH: 2-4 2-5x", 15)
        self.same(read_laying("HTHHTH: 2-4 2-5"), ((6, ((2, 4), (2, 5))), (1, 0, 1, 1, 0, 1)))

    def test_each_single_sign(self):
        for code in range(256):
            sign = chr(code)
            if sign in "HT.":
                self.same(read_laying(sign), (SINGLE, ({"H": 1, "T": 0, ".": None}[sign],)))
            else:
                self.wrong(sign, 1 if sign == " " else 0)


if __name__ == "__main__":
    unittest.main()
