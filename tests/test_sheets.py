"""Points 1 and 28: sheets, written and read."""

import unittest
from fractions import Fraction

from postmead.errors import BadSheet
from postmead.mead import Mead
from postmead.sheets import mead_read, mead_text
from tests.meads import made, some_deeds, state
from tests.measures import CUTTINGS, all_ties, parts, some_lengths

THREE = "mead 3\n0 1 1/1\n0 2 2/3\n1 2 7/1\nend\n"
FOUR = "mead 4\n0 1 1/1\n0 2 5/2\n0 3 4/1\n1 2 2/1\n2 3 3/1\nend\n"
SQUARE = {(0, 1): (1, 1), (0, 2): (5, 2), (0, 3): (4, 1), (1, 2): (2, 1), (2, 3): (3, 1)}


def with_length(word):
    return f"mead 3\n0 1 1/1\n0 2 {word}\n1 2 7/1\nend\n"


def row_changes(text):
    """The sheet with a row left out, twice, or in the place of the one behind it."""
    rows = text.splitlines(keepends=True)
    for at in range(len(rows)):
        yield "".join(rows[:at] + rows[at + 1:])
        yield "".join(rows[:at] + [rows[at]] + rows[at:])
        if at:
            yield "".join(rows[:at - 1] + [rows[at], rows[at - 1]] + rows[at + 1:])


def sign_changes(text):
    """The sheet with one sign left out, or one more."""
    for at in range(len(text) + 1):
        if at < len(text):
            yield text[:at] + text[at + 1:]
        for sign in " \n0/-+e.":
            changed = text[:at] + sign + text[at:]
            if changed != text:
                yield changed


class TestWritten(unittest.TestCase):
    def test_small_ones(self):
        lengths = {(0, 1): (1, 1), (0, 2): (2, 3), (1, 2): (7, 1)}
        self.assertEqual(mead_text(Mead(3, [], lengths)), THREE)
        self.assertEqual(mead_text(Mead(4, [(2, 0)], SQUARE)), FOUR)

    def test_rising_by_numbers_not_by_signs(self):
        n, cut = CUTTINGS[-1]
        self.assertEqual(n, 12)
        rows = mead_text(made(n, cut)).split("\n")
        self.assertEqual(rows[0], "mead 12")
        self.assertEqual(rows[-2:], ["end", ""])
        posts = [tuple(int(word) for word in row.split(" ")[:2]) for row in rows[1:-2]]
        self.assertEqual(posts, all_ties(n, cut))

    def test_behind_deeds(self):
        mead = Mead(3, [], {(0, 1): (1, 1), (0, 2): (2, 1), (1, 2): (3, 1)})
        mead.set_out(0, (5, 1), (7, 2))
        mead.stretch(3, (1, 2))
        ahead = state(mead)
        self.assertEqual(
            mead_text(mead),
            "mead 4\n0 1 5/1\n0 2 1/1\n0 3 1/1\n1 2 7/2\n2 3 3/2\nend\n")
        self.assertEqual(state(mead), ahead)

    def test_numbers_of_4000_figures(self):
        long = 10 ** 3999
        text = mead_text(Mead(3, [], {(0, 1): (long, 1), (0, 2): (1, long), (1, 2): (1, 1)}))
        self.assertEqual(
            text, f"mead 3\n0 1 {long}/1\n0 2 1/{long}\n1 2 1/1\nend\n")


class TestRead(unittest.TestCase):
    def test_small_ones(self):
        mead = mead_read(FOUR)
        self.assertIs(type(mead), Mead)
        self.assertEqual(state(mead), (4, [(0, 2)], SQUARE, []))
        self.assertEqual(mead_text(mead_read(THREE)), THREE)

    def test_what_is_written_is_read(self):
        for n, cut in CUTTINGS:
            text = mead_text(made(n, cut))
            self.assertEqual(state(mead_read(text)), (n, cut, some_lengths(n, cut, 1), []))
            self.assertEqual(mead_text(mead_read(text)), text)

    def test_behind_deeds_and_without_them(self):
        mead = made()
        for turn in range(30):
            some_deeds(mead, turn)
            told = state(mead_read(mead_text(mead)))
            self.assertEqual(told, state(mead)[:3] + ([],))

    def test_400_figures_are_read(self):
        nines, tens = 10 ** 400 - 1, 10 ** 399
        self.assertEqual(mead_read(with_length(f"{nines}/{tens}")).length(0, 2), (nines, tens))
        self.assertEqual(mead_read(with_length(f"1/{nines}")).length(2, 0), (1, nines))

    def test_more_figures_are_refused(self):
        for many in (401, 4000, 4301, 5000):
            figures = "9" * many
            for word in (f"{figures}/1", f"1/{figures}", f"{figures}/{figures}"):
                self.refused(with_length(word))
            self.refused(THREE.replace("mead 3", f"mead {figures}"))
            self.refused(THREE.replace("1 2 7/1", f"1 {figures} 7/1"))
            self.refused(THREE.replace("1 2 7/1", f"{figures} 2 7/1"))
        long = made(3, [])
        long.stretch(0, (10 ** 400, 1))
        self.refused(mead_text(long))

    def refused(self, text):
        with self.subTest(text[:60]):
            with self.assertRaises(BadSheet):
                mead_read(text)

    def test_other_numbers_of_posts(self):
        for word in ("2", "4", "0", "1", "13", "-3", "", "03", "+3", "3 ", " 3", "3 3", "three",
                     "9" * 400, "3.0", "3/1"):
            self.refused(THREE.replace("mead 3", f"mead {word}"))
        for word in ("3", "5", "12"):
            self.refused(FOUR.replace("mead 4", f"mead {word}"))
        self.refused("mead 2\n0 1 1/1\nend\n")
        sides = "".join(f"{post} {post + 1} 1/1\n" for post in range(1, 12))
        fan = "".join(f"0 {post} 1/1\n" for post in range(1, 13))
        rows = sorted((fan + sides).splitlines(), key=lambda row: [
            int(word) for word in row.split(" ")[:2]])
        self.refused("mead 13\n" + "\n".join(rows) + "\nend\n")

    def test_rows_left_out_twice_or_out_of_order(self):
        for text in (THREE, FOUR, mead_text(made(*CUTTINGS[7]))):
            for changed in row_changes(text):
                self.refused(changed)

    def test_one_sign_left_out_or_more(self):
        refused = 0
        for text in (THREE, FOUR):
            for changed in sign_changes(text):
                if changed in read_too(text):
                    self.assertEqual(mead_text(mead_read(changed)), changed)
                else:
                    self.refused(changed)
                    refused += 1
        self.assertGreater(refused, 500)

    def test_ties_that_are_none(self):
        for row in ("1 3 1/1", "0 0 1/1", "3 3 1/1", "0 4 1/1", "2 0 5/2", "-1 2 1/1", "0 1 1/1"):
            self.refused(FOUR.replace("0 2 5/2", row))
        # A rope too many, that crosses the other; one pair more that is no tie.
        self.refused(FOUR.replace("1 2 2/1", "1 2 2/1\n1 3 1/1"))
        self.refused(FOUR.replace("2 3 3/1", "2 3 3/1\n2 4 1/1"))
        self.refused(FOUR.replace("0 2 5/2\n", ""))

    def test_ropes_that_cross(self):
        text = mead_text(made(5, [(0, 2), (0, 3)]))
        mead_read(text)
        row = [row for row in text.split("\n") if row.startswith("0 2 ")][0]
        self.refused(text.replace(row + "\n", "").replace("2 3 ", "1 4 1/1\n2 3 "))

    def test_lengths_that_are_none(self):
        for word in ("0/1", "-2/3", "-1/1", "4/6", "2/2", "2/-3", "-2/-3", "2/0", "0/0", "02/3",
                     "2/03", "+2/3", "2", "2/", "/3", "2/3/1", "", "2 /3", "2/ 3", "2/3 ", " 2/3",
                     "2.0/3", "a/b", "-0/1", "0/2"):
            self.refused(with_length(word))

    def test_other_texts(self):
        for text in ("", "\n", " ", "end\n", "mead 3\nend\n", "mead 3", "mead", "mead \nend\n",
                     "mead 3\n\nend\n", "\n\n\n\n\n\n", "mead 3\n" + "end\n" * 4,
                     THREE + "\n", THREE + THREE, THREE + " ", THREE + "end\n", "\n" + THREE,
                     " " + THREE, THREE[:-1], THREE[:-2], THREE[:-4], THREE[:-5],
                     THREE.replace("end", "END"), THREE.replace("end", "end "),
                     THREE.replace("mead", "Mead"), THREE.replace("mead ", "mead"),
                     THREE.replace("mead ", "mead  "), THREE.replace("mead ", "meads "),
                     THREE.replace("0 1", "0  1"), THREE.replace("0 1 ", "0 1  "),
                     THREE.replace("0 1 ", " 0 1 "), THREE.replace("1/1\n", "1/1 \n"),
                     THREE.replace("0 1 ", "00 1 "), THREE.replace("0 1 ", "0 01 "),
                     THREE.replace("0 1 ", "-0 1 "), THREE.replace("0 1 ", "+0 1 "),
                     THREE.replace("0 1 ", "1 0 "), THREE.replace("0 1 ", "0 1 2 "),
                     THREE.replace("0 1 ", "0 "), THREE.replace("\n", "\n\n")):
            self.refused(text)

    def test_a_mead_of_its_own_each_time(self):
        one, other = mead_read(FOUR), mead_read(FOUR)
        one.turn(0, 2)
        self.assertEqual(mead_text(other), FOUR)
        self.assertEqual(other.lengths(), {tie: parts(Fraction(*SQUARE[tie])) for tie in SQUARE})


def read_too(text):
    """The sheets that one sign less or more makes of the text: with another length."""
    rows = text.split("\n")
    sheets = []
    for at in range(1, len(rows) - 2):
        words = rows[at].split(" ")
        top, bottom = words[2].split("/")
        more = [(top + "0", bottom), (top[0] + "0" + top[1:], bottom), (top, bottom + "0")]
        less = [(top[1:], bottom), (top, bottom[1:])]
        for above, below in more + less:
            if above and below and parts(Fraction(int(above), int(below))) == (
                    int(above), int(below)):
                row = f"{words[0]} {words[1]} {above}/{below}"
                sheets.append("\n".join(rows[:at] + [row] + rows[at + 1:]))
    return sheets


if __name__ == "__main__":
    unittest.main()
