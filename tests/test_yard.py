"""Points 1 and 29 to 31: yards, their names and sheets, and lines."""

import unittest

from postmead.counts import cutting_at, how_many
from postmead.errors import BadSheet, NoName, Taken
from postmead.sheets import mead_text
from postmead.yard import Yard
from tests.meads import made, some_deeds
from tests.measures import CUTTINGS, ones

THREE = "mead 3\n0 1 1/1\n0 2 2/3\n1 2 7/1\nend\n"
FOUR = "mead 4\n0 1 1/1\n0 2 5/2\n0 3 4/1\n1 2 2/1\n2 3 3/1\nend\n"
NO_NAMES = [
    "", "A", "aB", "a1", "1", "a b", " a", "a ", "a-b", "a_b", "a.b", "abcdefghi", "a" * 400,
    "a\n", "\n", "\na", "~", "a/b", "`", "{", "@", "[",
]
LONG = "9" * 400
TOO_LONG = "9" * 401


def yard_of(**sheets):
    yard = Yard()
    for name, sheet in sheets.items():
        yard.put(name, sheet)
    return yard


def whole(yard):
    """All that is told of a Yard, with what can be taken back and done again."""
    seen = [(name, yard.sheet(name)) for name in yard.names()]
    for name in yard.names():
        mead = yard._held[name].twin()
        rows = [mead.deeds()]
        while yard_can(mead.again):
            rows.append((mead.deeds(), mead_text(mead)))
        while yard_can(mead.back):
            rows.append((mead.deeds(), mead_text(mead)))
        seen.append(rows)
    return seen


def yard_can(move):
    try:
        move()
    except ValueError:
        return False
    return True


class Yards(unittest.TestCase):
    def answers(self, yard, lines):
        """Whether each line is answered so."""
        for line, answer in lines:
            with self.subTest(line[:60]):
                told = yard.deed(line)
                self.assertIs(type(told), str)
                self.assertEqual(told, answer)

    def refuses(self, yard, answer, lines):
        """Whether each line is answered so and changes nothing."""
        for line in lines:
            with self.subTest(line[:60]):
                ahead = whole(yard)
                self.assertEqual(yard.deed(line), answer)
                self.assertTrue(whole(yard) == ahead)


class TestNames(Yards):
    def test_none_at_first(self):
        self.assertEqual(Yard().names(), [])

    def test_rising_as_texts(self):
        yard = Yard()
        for name in ("b", "a", "ab", "z", "aa", "abcdefgh", "zz", "zzzzzzzz"):
            self.assertIsNone(yard.put(name, THREE))
        self.assertEqual(yard.names(), ["a", "aa", "ab", "abcdefgh", "b", "z", "zz", "zzzzzzzz"])

    def test_a_new_list_each_time(self):
        yard = yard_of(a=THREE)
        yard.names().clear()
        yard.names().append("b")
        self.assertEqual(yard.names(), ["a"])

    def test_free_again_once_dropped(self):
        yard = yard_of(a=THREE, b=FOUR)
        self.answers(yard, [("drop a", "ok"), ("posts a", "no name"), ("drop a", "no name")])
        self.assertEqual(yard.names(), ["b"])
        with self.assertRaises(NoName):
            yard.sheet("a")
        yard.put("a", FOUR)
        self.assertEqual(yard.sheet("a"), FOUR)
        self.answers(yard, [("drop a", "ok"), ("lay a 3 0", "ok"), ("posts a", "3")])
        self.answers(yard, [("drop b", "ok"), ("twin a b", "ok"), ("posts b", "3")])

    def test_yards_of_their_own(self):
        one, other = yard_of(a=THREE), Yard()
        self.assertEqual(other.names(), [])
        other.put("a", FOUR)
        self.assertEqual((one.sheet("a"), other.sheet("a")), (THREE, FOUR))


class TestPutAndSheet(Yards):
    def test_what_is_put_is_told(self):
        for n, cut in CUTTINGS:
            sheet = mead_text(made(n, cut))
            self.assertEqual(yard_of(some=sheet).sheet("some"), sheet)

    def test_refusals_in_their_order(self):
        yard = yard_of(a=THREE)
        for name in NO_NAMES:
            for sheet in (THREE, FOUR, ""):
                with self.assertRaises(NoName):
                    yard.put(name, sheet)
        for sheet in (THREE, FOUR, "", "mead"):
            with self.assertRaises(Taken):
                yard.put("a", sheet)
        for sheet in ("", "mead", THREE + "\n", THREE.replace("7/1", "0/1"), THREE[:-1]):
            for name in ("b", "abcdefgh"):
                with self.assertRaises(BadSheet):
                    yard.put(name, sheet)
        self.assertEqual(yard.names(), ["a"])
        self.assertEqual(yard.sheet("a"), THREE)

    def test_no_name_of_a_sheet(self):
        yard = yard_of(a=THREE)
        for name in NO_NAMES + ["b", "aa", "zzzzzzzz"]:
            with self.assertRaises(NoName):
                yard.sheet(name)


class TestLines(Yards):
    def test_lay(self):
        yard = Yard()
        self.answers(yard, [
            ("lay a 3 0", "ok"), ("lay b 12 16795", "ok"), ("lay abcdefgh 5 4", "ok")])
        self.assertEqual(yard.names(), ["a", "abcdefgh", "b"])
        self.assertEqual(
            yard.sheet("abcdefgh"),
            "mead 5\n0 1 1/1\n0 2 1/1\n0 3 1/1\n0 4 1/1\n1 2 1/1\n2 3 1/1\n3 4 1/1\nend\n")
        for n in range(3, 9):
            for number in range(how_many(n)):
                yard = Yard()
                self.answers(yard, [(f"lay a {n} {number}", "ok"), ("cutting a", str(number))])
                cut = cutting_at(n, number)
                self.assertEqual(yard.sheet("a").count(" 1/1\n"), len(ones(n, cut)))
                for a, b in cut:
                    self.assertIn(f"\n{a} {b} 1/1\n", yard.sheet("a"))

    def test_turn(self):
        yard = yard_of(a=FOUR)
        self.answers(yard, [
            ("turn a 0 2", "1 3"), ("turn a 3 1", "0 2"), ("turn a 2 0", "1 3"),
            ("length a 1 3", "22/5")])
        self.assertEqual(
            yard.sheet("a"), "mead 4\n0 1 1/1\n0 3 4/1\n1 2 2/1\n1 3 22/5\n2 3 3/1\nend\n")

    def test_stretch(self):
        yard = yard_of(a=FOUR)
        self.answers(yard, [("stretch a 1 7/2", "ok"), ("stretch a 3 1/2", "ok")])
        self.assertEqual(
            yard.sheet("a"), "mead 4\n0 1 7/2\n0 2 5/2\n0 3 2/1\n1 2 7/1\n2 3 3/2\nend\n")

    def test_set_and_draw(self):
        yard = yard_of(a=THREE)
        self.answers(yard, [("set a 0 5/1 1/7", "1"), ("posts a", "4")])
        self.assertEqual(
            yard.sheet("a"), "mead 4\n0 1 5/1\n0 2 1/1\n0 3 2/3\n1 2 1/7\n2 3 7/1\nend\n")
        self.answers(yard, [("set a 3 5/1 1/7", "4"), ("draw a 4", "5/1 1/7")])
        self.answers(yard, [("draw a 1", "5/1 1/7"), ("posts a", "3")])
        self.assertEqual(yard.sheet("a"), THREE)

    def test_what_is_asked(self):
        yard = yard_of(a=THREE, b=FOUR)
        ahead = whole(yard)
        self.answers(yard, [
            ("length a 0 2", "2/3"), ("length a 2 0", "2/3"), ("length b 3 1", "22/5"),
            ("posts a", "3"), ("posts b", "4"), ("cutting a", "0"), ("cutting b", "1"),
            ("alike a a", "yes"), ("alike a b", "no"), ("alike b a", "no")])
        self.assertEqual(whole(yard), ahead)

    def test_back_and_again(self):
        yard = yard_of(a=FOUR)
        self.answers(yard, [
            ("turn a 0 2", "1 3"), ("stretch a 0 2/1", "ok"), ("set a 3 1/1 1/2", "4"),
            ("draw a 4", "1/1 1/2"), ("back a", "draw"), ("back a", "set"),
            ("back a", "stretch"), ("back a", "turn"), ("back a", "no back")])
        self.assertEqual(yard.sheet("a"), FOUR)
        self.answers(yard, [
            ("again a", "turn"), ("again a", "stretch"), ("again a", "set"),
            ("again a", "draw"), ("again a", "no back"), ("back a", "draw"),
            ("turn a 0 3", "1 4"), ("again a", "no back")])

    def test_lead(self):
        yard = yard_of(a=FOUR)
        self.answers(yard, [
            ("lead a 1", "0"), ("back a", "no back"), ("lead a 0", "1"), ("cutting a", "0"),
            ("back a", "turn"), ("lead a 1", "0"), ("again a", "turn"), ("again a", "no back")])
        self.answers(yard, [("lay b 6 0", "ok"), ("lead b 13", "3"), ("cutting b", "13")])

    def test_twin(self):
        yard = yard_of(a=FOUR)
        self.answers(yard, [
            ("turn a 0 2", "1 3"), ("back a", "turn"), ("twin a b", "ok"), ("again b", "turn"),
            ("back b", "turn"), ("back b", "no back"), ("stretch b 0 2/1", "ok"),
            ("again a", "turn"), ("alike a b", "yes"), ("set b 0 1/1 1/1", "1"),
            ("posts a", "4"), ("drop a", "ok"), ("posts b", "5"), ("twin b a", "ok")])
        self.assertEqual(yard.names(), ["a", "b"])

    def test_alike(self):
        yard = yard_of(a=FOUR, b=FOUR.replace("0 1 1/1", "0 1 3/1"))
        self.answers(yard, [
            ("alike a b", "no"), ("alike b a", "no"), ("twin a c", "ok"),
            ("stretch c 3 5/7", "ok"), ("turn c 0 2", "1 3"), ("alike a c", "yes"),
            ("alike c a", "yes"), ("alike b c", "no"), ("alike c c", "yes")])

    def test_answers_of_many_figures(self):
        yard = yard_of(a=THREE)
        length = 1
        for _ in range(9):
            self.answers(yard, [(f"stretch a 0 {LONG}/1", "ok"), (f"stretch a 2 1/{LONG}", "ok")])
            length *= int(LONG)
            self.answers(yard, [("length a 1 0", f"{length}/1")])
        self.assertGreater(length, 10 ** 3500)
        self.answers(yard, [("length a 1 2", f"7/{length}"), ("length a 0 2", "2/3")])
        self.assertEqual(yard.sheet("a"), f"mead 3\n0 1 {length}/1\n0 2 2/3\n1 2 7/{length}\nend\n")
        with self.assertRaises(BadSheet):
            yard.put("b", yard.sheet("a"))


# A line of each kind that can be done in the yard of `full_yard`.
GOOD = [
    "lay n 5 0", "turn a 0 2", "stretch a 0 1/2", "set a 0 1/2 2/1", "draw a 1", "length a 0 2",
    "posts a", "cutting a", "back a", "again a", "lead a 0", "twin a n", "drop a", "alike a b",
]


def full_yard():
    """A yard of a mead with deeds that stand and deeds taken back, and others."""
    yard = yard_of(a=FOUR, b=THREE, c=mead_text(made(*CUTTINGS[-1])))
    for line in ("stretch a 0 2/1", "turn a 0 2", "back a"):
        yard.deed(line)
    return yard


class TestNoLine(Yards):
    def test_the_good_ones_are_none_of_them(self):
        for line in GOOD:
            self.assertNotIn(full_yard().deed(line), (
                "no line", "no name", "taken", "no post", "no rope", "no fraction", "no number",
                "full", "few", "has ropes", "no back"))

    def test_blanks(self):
        lines = []
        for line in GOOD:
            lines += [f" {line}", f"{line} ", f"{line}\n", f"\n{line}", line.replace(" ", "\n")]
            for at in range(len(line)):
                if line[at] == " ":
                    lines += [line[:at] + " " + line[at:], line[:at] + line[at + 1:]]
        self.refuses(full_yard(), "no line", lines + ["", " ", "  ", "\n"])

    def test_words_too_many_or_too_few(self):
        lines = []
        for line in GOOD:
            words = line.split(" ")
            lines += [f"{line} 0", f"{line} a", f"{line} 1/1", " ".join(words[:-1]), words[0]]
        self.refuses(full_yard(), "no line", lines)

    def test_other_first_words(self):
        lines = []
        for line in GOOD:
            first, rest = line.split(" ", 1)
            lines += [f"{word} {rest}" for word in (
                first.upper(), first.capitalize(), first[:-1], first + "s", "", "names")]
        self.refuses(full_yard(), "no line", lines)

    def test_names_that_are_none(self):
        for line in GOOD:
            words = line.split(" ")
            for at in range(1, len(words)):
                if words[at].isalpha():
                    self.refuses(full_yard(), "no line", [
                        " ".join(words[:at] + [name] + words[at + 1:]) for name in NO_NAMES])

    def test_numbers_that_are_none(self):
        for line in GOOD:
            words = line.split(" ")
            for at in range(1, len(words)):
                if words[at].isdigit():
                    self.refuses(full_yard(), "no line", [
                        " ".join(words[:at] + [word] + words[at + 1:]) for word in (
                            "", "-0", "-1", "+1", "+0", "00", "01", "1.0", "1/1", "a", "A", "-",
                            "1_0", "1e1", TOO_LONG, "1" * 5000, "-" + LONG)])

    def test_fractions_that_are_none(self):
        for line in GOOD:
            words = line.split(" ")
            for at in range(1, len(words)):
                if "/" in words[at]:
                    self.refuses(full_yard(), "no line", [
                        " ".join(words[:at] + [word] + words[at + 1:]) for word in (
                            "", "1", "/", "1/", "/1", "2/4", "0/2", "-0/1", "1/0", "1/-2", "01/2",
                            "1/02", "+1/2", "-2/4", "1/2/3", "a/b", "1.5", f"{TOO_LONG}/1",
                            f"1/{TOO_LONG}", f"-{TOO_LONG}/1", "9" * 5000 + "/1")])

    def test_first_of_all(self):
        self.refuses(full_yard(), "no line", [
            "turn zz 0 x", "turn zz 0", "lay a 5 -1", "lay a 99 x", "stretch zz 9 2/4",
            "twin zz A", "twin zz a b", "alike zz", "drop zz zz", "back zz 1"])


class TestNoNameAndTaken(Yards):
    def test_no_name(self):
        self.refuses(full_yard(), "no name", [
            "turn zz 0 2", "stretch zz 0 1/2", "set zz 0 1/2 2/1", "draw zz 1", "length zz 0 2",
            "posts zz", "cutting zz", "back zz", "again zz", "lead zz 0", "twin zz n", "drop zz",
            "alike zz a", "alike a zz", "alike zz zz", "alike zz yy", "twin zz zz",
            # What else would be due comes behind it.
            "turn zz 9 9", "stretch zz 99 0/1", "set zz 99 0/1 0/1", "draw zz 99",
            "length zz 1 1", "lead zz 99999999", "twin zz a"])

    def test_taken(self):
        self.refuses(full_yard(), "taken", [
            "lay a 5 0", "lay a 2 0", "lay a 13 0", "lay a 5 5", f"lay a {LONG} {LONG}",
            "twin a b", "twin a a", "twin b a"])


class TestRefusedDeeds(Yards):
    def test_no_post(self):
        self.refuses(full_yard(), "no post", [
            "lay n 2 0", "lay n 0 0", "lay n 1 0", "lay n 13 0", "lay n 2 1", f"lay n {LONG} 0",
            "lay n 13 99999999", f"lay n 0 {LONG}",
            "stretch a 4 1/2", "stretch a 4 0/1", f"stretch a {LONG} -1/2", "stretch b 3 1/1",
            "set a 4 1/1 1/1", "set a 4 0/1 1/1", "set c 12 1/1 1/1", f"set c {LONG} -1/1 0/1",
            "draw a 4", "draw b 3", "draw c 12", f"draw b {LONG}",
            "length a 0 0", "length a 0 4", "length a 4 0", "length a 4 4", f"length a {LONG} 1"])

    def test_no_rope(self):
        self.refuses(full_yard(), "no rope", [
            "turn a 0 1", "turn a 1 3", "turn a 3 1", "turn a 0 0", "turn a 0 4", "turn a 4 4",
            "turn b 0 1", f"turn a {LONG} 0", f"turn a 2 {LONG}"])

    def test_no_fraction(self):
        self.refuses(full_yard(), "no fraction", [
            "stretch a 0 0/1", "stretch a 3 -1/2", f"stretch a 3 -{LONG}/1",
            "set a 0 0/1 1/1", "set a 3 1/1 0/1", "set a 0 -1/2 1/1", "set a 0 1/1 -1/2",
            "set c 0 0/1 1/1", "set c 11 1/1 -2/1"])

    def test_no_number(self):
        self.refuses(full_yard(), "no number", [
            "lay n 3 1", "lay n 5 5", "lay n 12 16796", f"lay n 12 {LONG}",
            "lead a 2", "lead b 1", "lead c 16796", f"lead a {LONG}"])

    def test_full_few_and_has_ropes(self):
        yard = full_yard()
        self.refuses(yard, "full", ["set c 0 1/1 1/1", "set c 11 1/2 2/1"])
        self.refuses(yard, "few", ["draw b 0", "draw b 1", "draw b 2"])
        self.refuses(yard, "has ropes", ["draw a 0", "draw a 2"])

    def test_no_back(self):
        yard = full_yard()
        self.refuses(yard, "no back", ["back b", "again b", "again c"])
        self.answers(yard, [("again a", "turn"), ("again a", "no back")])

    def test_400_figures_are_read(self):
        yard = yard_of(a=THREE)
        self.answers(yard, [
            (f"stretch a 0 {LONG}/1", "ok"), ("length a 0 1", f"{LONG}/1"),
            (f"stretch a 0 1/{LONG}", "ok"), ("length a 0 1", "1/1"),
            (f"set a 0 {LONG}/1 1/{LONG}", "1"), ("draw a 1", f"{LONG}/1 1/{LONG}"),
            (f"posts a {LONG}", "no line"), (f"lead a {LONG}", "no number")])


class TestLinesAndMeadsAtOnce(Yards):
    def test_a_long_row_of_deeds(self):
        """The same deeds by lines and by a Mead, with the same answers from both."""
        yard, mead = yard_of(a=mead_text(made())), made()
        done = 0
        for turn in range(400):
            for line, answer in step_lines(mead, turn):
                self.assertEqual(yard.deed(line), answer)
                done += 1
            self.assertEqual(yard.sheet("a"), mead_text(mead))
        self.assertGreater(done, 800)
        # A new deed lets go of what is still taken back.
        self.assertEqual(yard.deed("stretch a 0 1/1"), "ok")
        mead.stretch(0, (1, 1))
        undone = 0
        while mead.deeds():
            self.assertEqual(yard.deed("back a"), mead.back()[0])
            undone += 1
        self.assertGreater(undone, 50)
        self.assertEqual(yard.deed("back a"), "no back")
        self.assertEqual(yard.sheet("a"), mead_text(made()))
        self.assertEqual(mead_text(mead), mead_text(made()))
        for _ in range(undone):
            self.assertEqual(yard.deed("again a"), mead.again()[0])
            self.assertEqual(yard.sheet("a"), mead_text(mead))
        self.assertEqual(yard.deed("again a"), "no back")


def fraction_text(part):
    return f"{part[0]}/{part[1]}"


def step_lines(mead, turn):
    """Does something to the Mead; yields the lines that do the same, with their answers."""
    if turn % 4 == 3:
        if mead.deeds():
            yield "back a", mead.back()[0]
        if turn % 8 == 3 and turn % 3:
            yield "again a", mead.again()[0]
        return
    count = len(mead.deeds())
    ahead = mead.twin()
    some_deeds(mead, turn)
    for deed in mead.deeds()[count:]:
        yield deed_line(ahead, deed)
    n = mead.posts()
    a, b = turn % n, (turn + 1 + turn // 5 % (n - 1)) % n
    yield f"length a {a} {b}", fraction_text(mead.length(a, b))
    yield "posts a", str(n)


def deed_line(mead, deed):
    """Does the deed to the Mead; tells the line that does the same, and its answer."""
    kind, *told = deed
    if kind == "turn":
        return f"turn a {told[1]} {told[0]}", "{} {}".format(*mead.turn(*told))
    if kind == "stretch":
        mead.stretch(*told)
        return f"stretch a {told[0]} {fraction_text(told[1])}", "ok"
    if kind == "set":
        k, one, other = told
        line = f"set a {k} {fraction_text(one)} {fraction_text(other)}"
        return line, str(mead.set_out(k, one, other))
    one, other = mead.draw(*told)
    return f"draw a {told[0]}", f"{fraction_text(one)} {fraction_text(other)}"


if __name__ == "__main__":
    unittest.main()
