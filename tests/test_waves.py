"""Point 19: waves."""

import random
import unittest

from chipstack.building import build
from chipstack.errors import RunError
from chipstack.gates import Run
from chipstack.plans import parse_plans
from chipstack.waves import Wave, head_of, number_of_text, read_wave

TEXT = "go 1\ncount 4\n\n#0 go=1 count=9\n#2 count=10\n#3 go=0 count=11\n#6\n"
ROWS = [(1, 9), (1, 9), (1, 10), (0, 11), (0, 11), (0, 11), (0, 11)]


def drawn_wave(seed):
    """Return (widths, rows) of a wave that is drawn; numbers often stay as they are."""
    draw = random.Random(seed)
    names = draw.sample(["a", "b7", "go", "x0x", "line", "zz", "count", "plan"], draw.randint(1, 6))
    widths = [(name, draw.choice([1, 2, 5, 8, 31, 32])) for name in names]
    rows = []
    for _ in range(draw.randint(0, 40)):
        row = list(rows[-1]) if rows else [draw.randrange(2 ** width) for name, width in widths]
        for at in draw.sample(range(len(row)), draw.choice([0, 0, 0, 1, len(row)])):
            row[at] = draw.choice([0, 2 ** widths[at][1] - 1, draw.randrange(2 ** widths[at][1])])
        rows.append(tuple(row))
    return widths, rows


def made(widths, rows):
    """Return a wave of rows."""
    wave = Wave(widths)
    for row in rows:
        wave.add({name: number for (name, width), number in zip(widths, row)})
    return wave


def own_text(widths, rows):
    """Return the text of a wave, told beat by beat."""
    text = "".join(f"{name} {width}\n" for name, width in widths) + "\n"
    for beat, row in enumerate(rows):
        told = "".join(f" {name}={number}" for at, ((name, width), number) in enumerate(zip(widths, row))
                       if beat == 0 or rows[beat - 1][at] != number)
        if told or beat in (0, len(rows) - 1):
            text += f"#{beat}{told}\n"
    return text


class WritingTest(unittest.TestCase):
    def test_lines(self):
        wave = made([("go", 1), ("count", 4)], ROWS)
        self.assertEqual(wave.wave_text(), TEXT)
        self.assertEqual((wave.widths, wave.rows), ((("go", 1), ("count", 4)), ROWS))

    def test_drawn_waves_are_written_read_and_written_again(self):
        for seed in range(200):
            widths, rows = drawn_wave(seed)
            wave = made(widths, rows)
            text = wave.wave_text()
            self.assertEqual(text, own_text(widths, rows))
            again = read_wave(text)
            self.assertEqual((again.widths, again.rows), (tuple(widths), rows))
            self.assertEqual((again.wave_text(), wave.rows), (text, rows))
            self.assertIsNone(wave.first_unlike(again))

    def test_a_run_as_a_wave(self):
        text = "plan p\nin go 1\nout count 4\nkeep now 4 = 9\nnow <- if go then now + 1:4 else now\ncount = now\nend\n"
        run, wave = Run(build(parse_plans(text), "p")), Wave([("go", 1), ("count", 4)])
        for go in (1, 1, 0, 0, 1, 1, 1, 1, 1, 1):
            wave.add({"go": go, **run.step({"go": go})})
        self.assertEqual([row[1] for row in wave.rows], [9, 10, 11, 11, 11, 12, 13, 14, 15, 0])
        self.assertEqual(read_wave(wave.wave_text()).rows, wave.rows)

    def test_few_beats_and_names(self):
        self.assertEqual(Wave([]).wave_text(), "\n")
        self.assertEqual(Wave([("a", 32)]).wave_text(), "a 32\n\n")
        self.assertEqual(made([("a", 1)], [(1,)]).wave_text(), "a 1\n\n#0 a=1\n")
        self.assertEqual(made([("a", 1)], [(1,)] * 2).wave_text(), "a 1\n\n#0 a=1\n#1\n")
        self.assertEqual(made([("a", 1)], [(1,)] * 4 + [(0,)]).wave_text(), "a 1\n\n#0 a=1\n#4 a=0\n")
        self.assertEqual(made([("a", 32)], [(2 ** 32 - 1,), (0,)]).wave_text(), "a 32\n\n#0 a=4294967295\n#1 a=0\n")

    def test_names_without_bits_of_their_own_do_not_count(self):
        wave = Wave([("a", 2)])
        wave.add({"a": 3, "other": 99})
        self.assertEqual(wave.rows, [(3,)])

    def test_numbers_that_lack_or_do_not_fit(self):
        wave = made([("a", 1), ("b", 3)], [(1, 7)])
        for table in ({}, {"a": 1}, {"b": 1}, {"a": 2, "b": 0}, {"a": 0, "b": 8}, {"a": -1, "b": 0}, {"a": 0, "b": -1}):
            self.assertRaises(RunError, wave.add, table)
            self.assertEqual((wave.rows, wave.widths), ([(1, 7)], (("a", 1), ("b", 3))))
        wave = Wave([("a", 32)])
        self.assertRaises(RunError, wave.add, {"a": 2 ** 32})
        wave.add({"a": 2 ** 32 - 1})
        self.assertEqual(wave.rows, [(2 ** 32 - 1,)])

    def test_what_is_given_stays(self):
        widths, table = [("a", 4)], {"a": 3, "b": 5}
        wave = Wave(widths)
        wave.add(table)
        widths.append(("b", 4))
        table["a"] = 4
        self.assertEqual((wave.widths, wave.rows, table["b"]), ((("a", 4),), [(3,)], 5))


class LookingTest(unittest.TestCase):
    def test_changes(self):
        wave = made([("go", 1), ("count", 4)], ROWS)
        self.assertEqual(wave.changes("go"), ((0, 1), (3, 0)))
        self.assertEqual(wave.changes("count"), ((0, 9), (2, 10), (3, 11)))
        for name in ("", "g", "goo", "#0"):
            self.assertRaises(RunError, wave.changes, name)
        self.assertEqual(Wave([("a", 1)]).changes("a"), ())
        self.assertRaises(RunError, Wave([("a", 1)]).changes, "b")

    def test_first_unlike(self):
        wave = made([("a", 4), ("b", 4)], [(1, 2), (3, 4), (5, 6)])
        for rows, told in (([(1, 2), (3, 4), (5, 6)], None), ([(1, 2), (3, 4), (5, 7)], (2, "b")),
                           ([(1, 2), (0, 0), (0, 0)], (1, "a")), ([(1, 0), (0, 4), (5, 6)], (0, "b"))):
            other = made([("a", 4), ("b", 4)], rows)
            self.assertEqual((wave.first_unlike(other), other.first_unlike(wave)), (told, told))
        turned = made([("b", 4), ("a", 4)], [(2, 1), (4, 0), (0, 0)])
        self.assertEqual(wave.first_unlike(turned), (1, "a"))
        self.assertIsNone(made([("b", 4), ("a", 4)], [(2, 1), (4, 3), (6, 5)]).first_unlike(wave))
        self.assertIsNone(wave.first_unlike(Wave([("a", 4), ("b", 4)])))

    def test_drawn_waves(self):
        for seed in range(100):
            widths, rows = drawn_wave(seed)
            wave, draw = made(widths, rows), random.Random(seed)
            for at, (name, width) in enumerate(widths):
                column = [row[at] for row in rows]
                told = tuple((beat, number) for beat, number in enumerate(column)
                             if beat == 0 or column[beat - 1] != number)
                self.assertEqual(wave.changes(name), told)
            if rows:
                others = [list(row) for row in rows]
                for _ in range(3):
                    beat, at = draw.randrange(len(rows)), draw.randrange(len(widths))
                    others[beat][at] = draw.randrange(2 ** widths[at][1])
                unlike = [(beat, widths[at][0]) for beat in range(len(rows)) for at in range(len(widths))
                          if rows[beat][at] != others[beat][at]]
                other = made(widths, [tuple(row) for row in others])
                self.assertEqual(wave.first_unlike(other), unlike[0] if unlike else None)


class ReadingTest(unittest.TestCase):
    def test_lines(self):
        wave = read_wave(TEXT)
        self.assertEqual((wave.widths, wave.rows), ((("go", 1), ("count", 4)), ROWS))
        self.assertEqual(read_wave("\n").widths, ())
        self.assertEqual(read_wave("a 1\n\n").rows, [])
        self.assertEqual(read_wave("a 1\n\n#0 a=1\n").rows, [(1,)])
        self.assertEqual(read_wave("a 32\nb0 1\n\n#0 a=4294967295 b0=0\n").rows, [(2 ** 32 - 1, 0)])

    def test_lines_that_tell_more_than_what_changed(self):
        wave = read_wave("a 2\nb 1\n\n#0 b=0 a=3\n#1\n#2 b=1 a=3\n#4 a=3\n")
        self.assertEqual(wave.rows, [(3, 0), (3, 0), (3, 1), (3, 1), (3, 1)])
        self.assertEqual(wave.wave_text(), "a 2\nb 1\n\n#0 a=3 b=0\n#2 b=1\n#4\n")

    def test_beats_up_to_the_last(self):
        rows = read_wave("a 1\n\n#0 a=1\n#100000\n").rows
        self.assertEqual((len(rows), rows[0], rows[-1]), (100001, (1,), (1,)))
        rows = read_wave("a 1\n\n#0 a=1\n#99999 a=0\n#100000 a=1\n").rows
        self.assertEqual((len(rows), rows[-3:]), (100001, [(1,), (0,), (1,)]))
        for beat in ("100001", "1000000", "9999999999", "10000000000"):
            self.assertRaises(RunError, read_wave, f"a 1\n\n#0 a=1\n#{beat} a=0\n")

    def test_heads_that_are_none(self):
        for head in ("", " ", "a", "a ", " 1", "a 0", "a 33", "a 01", "a 100", "a -1", "a x", "a 1 ", "a  1", "a 1 1",
                     "1a 1", "1 1", "A 1", "a.b 1", "a_b 1", "#a 1", "a=1 1", "a 1=1", "a 12345678901"):
            self.assertRaises(RunError, head_of, head)
            if head != "":
                self.assertRaises(RunError, read_wave, f"b 1\n{head}\n\n#0 b=1\n")
        self.assertEqual((head_of("a 1"), head_of("a0b 32")), (("a", 1), ("a0b", 32)))

    def test_lines_made_wrong_in_turn(self):
        good = "a 2\nb 1\n\n#0 a=3 b=0\n#2 b=1\n#4 a=0\n"
        self.assertEqual(read_wave(good).rows, [(3, 0), (3, 0), (3, 1), (3, 1), (0, 1)])
        for one, other in (("b 1\n", "a 1\n"), ("b 1\n", "b 0\n"), ("b 1\n", "b 40\n"), ("b 1\n\n", "b 1\n"),
                           ("a 2\nb 1\n\n", ""), ("a=0\n", "a=0"), ("#0 ", "#1 "), ("#0 ", "0 "), ("#0 ", "# "), ("#0 ", "x0 "), ("#0 ", "00 "), ("#2 ", "02 "),
                           ("#0 ", "#00 "), ("#0 a=3 b=0\n", ""), ("#0 a=3 b=0", "#0 a=3"), ("#0 a=3 b=0", "#0"),
                           ("#2 b", "#0 b"), ("#4 ", "#2 "), ("#4 ", "#1 "), ("#4 ", "#04 "), ("#4 ", "#100001 "),
                           ("#4 ", "4 "), ("#4 ", "#-4 "), ("#4 ", "#x "), ("#4 a=0", "#4 c=0"), ("#4 a=0", "#4 a=4"),
                           ("#4 a=0", "#4 a=00"), ("#4 a=0", "#4 a=01"), ("#4 a=0", "#4 a="), ("#4 a=0", "#4 a"),
                           ("#4 a=0", "#4 =0"), ("#4 a=0", "#4 a=-1"), ("#4 a=0", "#4 a=0 a=0"), ("#4 a=0", "#4 "),
                           ("#4 a=0", "#4  a=0"), ("#4 a=0", "#4 a=0 "), ("#4 a=0", "#4 a=12345678901"),
                           ("#4 a=0", "#4 a=x"), ("#4 a=0", "#4 A=0"), ("#4 a=0", "#4 a==0"), ("#4 a=0\n", "#4 a=0\n\n"),
                           ("#2 b=1\n", "#2 b=1\n\n"), ("#2 b=1\n", "#2 b=2\n"), ("#2 b=1\n", "b=1\n")):
            self.assertEqual(good.count(one), 1, one)
            self.assertRaises(RunError, read_wave, good.replace(one, other))
        for text in ("", "a 1", "a 1\n", "#0\n", "a 1\n#0 a=1\n", "a 1\na 1\n\n", "a 1\na 1\n\n#0 a=1\n", "a 2\nb 1\na 1\n\n"):
            self.assertRaises(RunError, read_wave, text)

    def test_numbers(self):
        for text in ("", "00", "01", "-1", "+1", " 1", "1 ", "1_0", "a", "0x1", "1.0", "12345678901", "\u0661"):
            self.assertRaises(RunError, number_of_text, text)
        for number in (0, 1, 9, 10, 100000, 9999999999):
            self.assertEqual(number_of_text(str(number)), number)


if __name__ == "__main__":
    unittest.main()
