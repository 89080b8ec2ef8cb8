"""Point 27: the texts of papers."""

import random
import unittest

from meterhouse import errors
from meterhouse.errors import HouseError, NoPaper
from meterhouse.notes import read_paper, show_paper

WIDE = 2 ** 64
TOP = WIDE - 1

OTHER_REFUSALS = (
    "NoCode", "NoClash", "NoSlot", "Taken", "NoNumber", "TooMuch", "NoAccount", "NoLimit", "PoorPurse", "PoorCoin", "NoRow",
)

PAPERS = (
    ((3, [0, 100, 50, 0, 0], [17, 4, 9, 12]), "3 / 0 100 50 0 0 / 17 4 9 12"),
    ((3, [], [17]), "3 /  / 17"),
    ((0, [1, 2], []), "0 / 1 2 / "),
    ((0, [], []), "0 /  / "),
    ((7, [5], [6]), "7 / 5 / 6"),
    ((TOP, [TOP, 0], [TOP]), "18446744073709551615 / 18446744073709551615 0 / 18446744073709551615"),
)


class Papers(unittest.TestCase):
    def check(self, paper, text):
        before = (paper[0], list(paper[1]), list(paper[2]))
        self.assertEqual(show_paper(paper), text)
        self.assertEqual(paper, before)
        told = read_paper(text)
        self.assertEqual(told, paper)
        self.assertEqual([type(part) for part in told], [int, list, list])
        self.assertTrue(all(type(number) is int for number in told[1] + told[2]))

    def test_papers_shown_and_read(self):
        for paper, text in PAPERS:
            with self.subTest(text=text):
                self.check(paper, text)

    def test_drawn_papers(self):
        draw = random.Random(27)
        for turn in range(300):
            numbers = [draw.getrandbits(draw.choice((1, 8, 64))) for k in range(draw.randint(0, 30))]
            way = [draw.getrandbits(61) for k in range(draw.choice((0, 1, 4, 59, 60)))]
            place = draw.getrandbits(draw.choice((1, 4, 64)))
            text = f"{place} / {' '.join(map(str, numbers))} / {' '.join(map(str, way))}"
            self.check((place, numbers, way), text)

    def test_sixty_stamps_and_one_more(self):
        self.check((5, [1], list(range(60))), "5 / 1 / " + " ".join(str(k) for k in range(60)))
        for many in (61, 62, 500):
            way = list(range(many))
            text = "5 / 1 / " + " ".join(str(k) for k in way)
            self.assertEqual(show_paper((5, [1], way)), text)
            with self.assertRaises(NoPaper):
                read_paper(text)

    def test_many_numbers(self):
        self.check((5, list(range(1000)), []), "5 / " + " ".join(str(k) for k in range(1000)) + " / ")

    def test_a_told_list_is_the_askers_own(self):
        text = "3 / 1 2 / 4"
        told = read_paper(text)
        told[1].clear()
        told[2].append(9)
        self.assertEqual(read_paper(text), (3, [1, 2], [4]))


class NoPapers(unittest.TestCase):
    def check(self, texts):
        for text in texts:
            with self.subTest(text=text[:80]):
                with self.assertRaises(NoPaper):
                    read_paper(text)

    def test_parts_lacking_or_too_many(self):
        self.check(["", " ", "3", "3 / 1", "3 / ", " / ", "3 1 2", "3 / 1 / 2 / 3", "3 / 1 / 2 / ", "3 /  /  / 2", "/", "//"])

    def test_other_partings(self):
        self.check([
            "3/1/2", "3 /1 / 2", "3 / 1/ 2", "3 / 1 /2", "3/ 1 / 2", "3 / 1 / 2 /", "3 , 1 , 2", "3 | 1 | 2", "3 / / 17",
            "3 // 17", "3 /17", "3 \\ 1 \\ 2", "3 / 1,2 / 4", "3; 1; 2", "3 /  /17", "0 / 1 2 /", "3 / 1\n/ 2",
        ])

    def test_blanks_too_many(self):
        self.check([
            " 3 / 1 / 2", "3 / 1 / 2 ", "3  / 1 / 2", "3 /  1 / 2", "3 / 1  / 2", "3 / 1 /  2", "3 / 1  2 / 3", "3 / 1 / 2  3",
            "3 /   / 17", "3 /  /  ", "0 / 1 2 /  ", " /  / ", "  /  /  ",
        ])

    def test_no_place_or_several(self):
        self.check([" / 1 / 2", "3 4 / 1 / 2", "x / 1 / 2", "-1 / 1 / 2", "03 / 1 / 2", f"{WIDE} / 1 / 2"])

    def test_things_that_are_no_numbers(self):
        for thing in ("x", "-1", "+1", "01", "00", "1.0", "1_0", str(WIDE), "9" * 20, "1" * 21, "1" * 5000, "", "a b", "~"):
            self.check([f"3 / {thing} 1 / 2", f"3 / 1 {thing} / 2", f"3 / 1 / {thing} 2", f"3 / 1 / 2 {thing}", f"{thing} / 1 / 2"])
            if thing:
                self.check([f"3 / {thing} / 2", f"3 / 1 / {thing}"])

    def test_no_paper_is_taken_as_told_and_is_none_of_the_others(self):
        for kind in (NoPaper, HouseError, ValueError):
            with self.assertRaises(kind):
                read_paper("none")
        try:
            read_paper("none")
        except HouseError as error:
            for name in OTHER_REFUSALS:
                self.assertNotIsInstance(error, getattr(errors, name))


if __name__ == "__main__":
    unittest.main()
