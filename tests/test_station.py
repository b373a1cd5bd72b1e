"""Point 30: the station."""

import random
import unittest

from chipstack.core import core_text
from chipstack.errors import CodeError, PlanError, RunError
from chipstack.fast import fast_text
from chipstack.isa import Machine, Size, encoded
from chipstack.plans import parse_plans
from chipstack.station import Station, line_of, loader_text, program_bytes, station_text
from chipstack.tables import CellRun, cells_of
from chipstack.traffic import sender_text
from tests.levels import all_runs, netlist_of, run_of, runs_of
from tests.machine import drawn_code
from tests.test_traffic import on_line

CODE = (("in", 0), ("store", 1), ("in", 0), ("add", 1), ("out", 0), ("zero", 6), ("jump", 0))
SIZES = (Size(2, 2), Size(4, 3), Size(3, 4), Size(4, 5), Size(8, 2), Size(8, 8), Size(2, 8))


def cells_run(text, name):
    """Return a run of a plan's cells."""
    return CellRun(cells_of(netlist_of(text, name)))


def sender(beats):
    """Return the circuit of a sender of bytes."""
    return cells_run(sender_text(8, beats), "sender")


def station(size, beats, coming=(), machine="fast"):
    """Return a station with a machine."""
    text = fast_text(size) if machine == "fast" else core_text(size)
    return Station(cells_run(station_text(size, beats), "station"), cells_run(text, machine), size, coming)


def own_line(data, beats, gaps):
    """Return the line of bytes, put together number by number."""
    line = []
    for at, byte in enumerate(data):
        gap = 0 if len(gaps) == 0 else gaps[at] if at < len(gaps) else gaps[-1]
        line += [1] * gap + [1] + on_line(8, beats, byte)
    return tuple(line + [1] * 40)


class OwnLoader:
    """A loader that is told number by number."""

    def __init__(self, size):
        self.two = size.width() > 8
        self.mask = 2 ** size.width() - 1
        self.many, self.bytes, self.words, self.spoilt = None, [], [], False

    def is_done(self):
        """Return whether all words are there."""
        return self.many is not None and len(self.words) == self.many

    def take(self, number, bad):
        """Take a number; return (spot, word) of what is put."""
        if bad:
            self.spoilt = True
        if self.spoilt or self.is_done():
            return None
        if self.many is None:
            self.many = number
            return None
        self.bytes.append(number)
        if len(self.bytes) < 1 + self.two:
            return None
        word = sum(byte << 8 * at for at, byte in enumerate(self.bytes)) & self.mask
        self.bytes = []
        self.words.append(word)
        return len(self.words) - 1, word


class BytesTest(unittest.TestCase):
    def test_one_byte_and_two(self):
        self.assertEqual(program_bytes([("set", 3), ("out", 0), ("halt", 0)], Size(4, 4)), (3, 0x13, 0xB0, 0))
        self.assertEqual(program_bytes([("set", 3), ("out", 0), ("jump", 31)], Size(4, 5)),
                         (3, 0b100011, 0, 0b1100000, 1, 0b11111, 1))
        self.assertEqual(program_bytes([("to", 255)], Size(8, 8)), (1, 0xFF, 0xF))
        self.assertEqual((program_bytes([], Size(4, 4)), program_bytes((), Size(8, 8))), ((0,), (0,)))

    def test_drawn_codes(self):
        for size in SIZES:
            draw = random.Random(size.width())
            for _ in range(10):
                code = drawn_code(draw, size.data, size.code, draw.randint(0, min(255, 2 ** size.code)))
                told, many = program_bytes(code, size), 2 if size.width() > 8 else 1
                self.assertEqual((told[0], len(told)), (len(code), 1 + many * len(code)))
                words = [sum(told[1 + many * at + more] << 8 * more for more in range(many)) for at in range(len(code))]
                self.assertEqual(words, [encoded(row, size) for row in code])
                self.assertTrue(all(0 <= byte < 256 for byte in told))

    def test_codes_that_do_not_fit(self):
        rows = [("out", 0)] * 256
        self.assertEqual(len(program_bytes(rows[:255], Size(8, 8))), 511)
        self.assertEqual(len(program_bytes(rows[:255], Size(2, 8))), 511)
        self.assertEqual(len(program_bytes(rows[:16], Size(4, 4))), 17)
        for code, size in ((rows, Size(8, 8)), (rows[:17], Size(4, 4)), (rows[:5], Size(8, 2)), ([("set", 16)], Size(4, 4)),
                           ([("jump", 16)], Size(8, 4)), ([("halt", 1)], Size(4, 4)), ([("go", 0)], Size(4, 4)), ([()], Size(4, 4))):
            self.assertRaises(CodeError, program_bytes, code, size)

    def test_what_is_given_stays(self):
        code = [("set", 3), ("out", 0)]
        program_bytes(code, Size(4, 4))
        self.assertEqual(code, [("set", 3), ("out", 0)])


class LoaderTest(unittest.TestCase):
    def test_names(self):
        for size in SIZES:
            plans = parse_plans(loader_text(size))
            self.assertEqual(list(plans), ["loader"])
            self.assertEqual(plans["loader"].ins(), (("number", 8), ("ready", 1), ("bad", 1)))
            self.assertEqual([name for name, width in plans["loader"].gives()], ["put", "spot", "word", "done", "spoilt"])
            self.assertEqual(dict(plans["loader"].gives())["word"], size.width())

    def hold(self, size, rows, runs):
        """Hold loaders against one of the test's own, for rows (number, ready, bad); return it."""
        own = OwnLoader(size)
        for number, ready, bad in rows:
            told = (own.is_done(), own.spoilt)
            put = own.take(number, bad) if ready else None
            for run in runs:
                outs = run.step({"number": number, "ready": ready, "bad": bad})
                self.assertEqual((outs["done"], outs["spoilt"], outs["put"]), (*told, int(put is not None)))
                if put is not None:
                    self.assertEqual((outs["spot"], outs["word"]), put)
        for run in runs:
            outs = run.step({"number": 0, "ready": 0, "bad": 0})
            self.assertEqual((outs["done"], outs["spoilt"], outs["put"]), (own.is_done(), own.spoilt, 0))
        return own

    def test_drawn_numbers(self):
        for size in SIZES:
            for seed in range(8):
                draw, rows = random.Random(seed), []
                for number in [draw.choice([0, 1, 2, 5, 9]), *[draw.randrange(256) for _ in range(25)]]:
                    rows += [(draw.randrange(256), 0, 0) for _ in range(draw.randrange(3))]
                    rows.append((number, 1, int(draw.random() < 0.03)))
                runs = runs_of(loader_text(size), "loader") if seed else all_runs(loader_text(size), "loader")
                self.hold(size, rows, runs)

    def test_words_and_what_is_behind_them(self):
        for size in (Size(4, 4), Size(5, 5)):
            more = size.width() > 8
            rows = [(3, 1, 0), *[(number, 1, 0) for number in range(20, 26 if more else 23)], (7, 1, 0), (8, 1, 0)]
            own = self.hold(size, rows, runs_of(loader_text(size), "loader"))
            self.assertEqual((len(own.words), own.is_done(), own.spoilt), (3, True, False))
            # A bad number behind the last word is told by spoilt alone.
            own = self.hold(size, [*rows, (9, 1, 1), (9, 1, 0)], runs_of(loader_text(size), "loader"))
            self.assertEqual((len(own.words), own.is_done(), own.spoilt), (3, True, True))

    def test_no_words_and_all(self):
        run = run_of(loader_text(Size(4, 4)), "loader")
        told = [run.step({"number": number, "ready": 1, "bad": 0}) for number in (0, 9, 9)]
        self.assertEqual([(outs["done"], outs["put"]) for outs in told], [(0, 0), (1, 0), (1, 0)])
        run = cells_run(loader_text(Size(8, 8)), "loader")
        self.hold(Size(8, 8), [(255, 1, 0), *[(number % 256, 1, 0) for number in range(520)]], [run])

    def test_a_bad_number_ahead_of_the_last_word(self):
        for size in (Size(4, 4), Size(8, 8)):
            for spoilt in range(1 + 2 * (1 + (size.width() > 8))):
                rows = [(number, 1, int(at == spoilt)) for at, number in enumerate([2, 16, 1, 16, 1, 16, 1])]
                own = self.hold(size, rows, runs_of(loader_text(size), "loader"))
                self.assertEqual((own.is_done(), own.spoilt), (False, True))


class LineTest(unittest.TestCase):
    def test_rests_and_numbers(self):
        for beats in (1, 2, 5, 8):
            for gaps in ([], [0], [3], [0, 5], [7, 0, 2, 9, 1, 1, 1, 1, 30], (2, 1)):
                for data in ((), (0,), (255, 0, 85, 170)):
                    line = line_of(sender(beats), data, gaps)
                    self.assertIs(type(line), tuple)
                    self.assertEqual(line, own_line(data, beats, gaps), (beats, gaps, data))

    def test_gaps_that_are_too_few(self):
        data = program_bytes(CODE, Size(4, 4))
        self.assertEqual(line_of(sender(2), data, [4, 6]), line_of(sender(2), data, [4] + [6] * 20))
        self.assertEqual(line_of(sender(2), data, []), line_of(sender(2), data, [0] * 20))
        self.assertEqual(line_of(sender(3), (), [9]), (1,) * 40)

    def test_what_is_given_stays(self):
        data, gaps = [1, 2], [3]
        line_of(sender(1), data, gaps)
        self.assertEqual((data, gaps), ([1, 2], [3]))


class StationPlanTest(unittest.TestCase):
    def test_names(self):
        for size in SIZES:
            plans = parse_plans(station_text(size, 3))
            self.assertEqual(list(plans), ["receiver", "loader", "station"])
            self.assertEqual(plans["station"].ins(), (("line", 1),))
            self.assertEqual(plans["station"].gives(), plans["loader"].gives())
            self.assertEqual(plans["receiver"].gives(), (("number", 8), ("ready", 1), ("bad", 1)))
        for beats in (-1, 0, 9):
            self.assertRaises(PlanError, station_text, Size(4, 4), beats)
        for beats in (1, 8):
            parse_plans(station_text(Size(4, 4), beats))


class RunTest(unittest.TestCase):
    def test_a_program_over_a_line(self):
        size, coming = Size(4, 4), (3, 4, 0, 0)
        for beats in (1, 2, 5, 8):
            for machine in ("core", "fast"):
                one = station(size, beats, coming, machine)
                self.assertEqual((one.coming, one.codes, one.words, one.board, one.spoilt), (coming, [], 0, None, False))
                line = line_of(sender(beats), program_bytes(CODE, size), [0, 5, 1])
                self.assertIs(one.run(line, 3), False)
                # The board runs behind the line, and has just the words that came.
                self.assertEqual((one.board.beats, one.board.sent), (3, []))
                self.assertEqual((one.codes, one.words, one.spoilt), ([encoded(row, size) for row in CODE], 7, False))
                self.assertEqual(one.board.codes, one.codes)
                self.assertIs(one.run((1,) * 9, 17), False)
                self.assertEqual((one.board.beats, one.board.sent[:2]), (20, [7, 0]))

    def test_drawn_programs(self):
        for seed in range(24):
            draw, size = random.Random(seed), SIZES[seed % len(SIZES)]
            code = drawn_code(draw, size.data, size.code, draw.randint(0, min(2 ** size.code, 24)), 0.1)
            coming = [draw.randrange(300) for _ in range(5)]
            beats = draw.randint(1, 8)
            gaps = [draw.choice([0, 0, 1, 2, 9, 40]) for _ in range(draw.randint(0, 60))]
            line = line_of(sender(beats), program_bytes(code, size), gaps)
            for machine in ("core", "fast"):
                one, own = station(size, beats, coming, machine), Machine(size, code, coming)
                halted = own.run(200)
                self.assertIs(one.run(line, 1000 if halted else 0), halted)
                self.assertEqual((one.words, one.codes), (len(code), [encoded(row, size) for row in code]))
                if halted:
                    self.assertEqual(one.board.shown(), (tuple(own.memory), tuple(own.sent), True))
                    self.assertEqual(one.board.coming, own.coming)

    def test_on_all_levels(self):
        size = Size(4, 3)
        code = [("in", 0), ("half", 0), ("out", 0), ("less", 0)]
        line = line_of(sender(2), program_bytes(code, size), [1, 0, 6])
        for run in all_runs(station_text(size, 2), "station"):
            one = Station(run, cells_run(core_text(size), "core"), size, [9, 7, 4, 4])
            self.assertIs(one.run(line, 100), True)
            self.assertEqual((one.board.sent, one.board.coming), ([4, 3, 2], [4]))

    def test_no_code_and_much(self):
        one = station(Size(4, 4), 2)
        self.assertIs(one.run(line_of(sender(2), (0,), []), 10), True)
        self.assertEqual((one.words, one.codes, one.board.codes, one.board.beats), (0, [], [], 2))
        size, code = Size(2, 8), [("out", 0)] * 255
        one = station(size, 1)
        self.assertIs(one.run(line_of(sender(1), program_bytes(code, size), [0]), 500), True)
        self.assertEqual((one.words, len(one.board.sent), one.board.beats), (255, 255, 257))

    def test_a_turned_bit_in_each_number(self):
        for size in (Size(4, 4), Size(5, 4)):
            data, beats = program_bytes(CODE[:3], size), 3
            line = line_of(sender(beats), data, [0])
            for at in range(len(data)):
                for bit in (1, 8, 9, 10):
                    spoilt = list(line)
                    start = at * (1 + 11 * beats) + 1 + bit * beats
                    for place in range(start, start + beats):
                        spoilt[place] ^= 1
                    one = station(size, beats)
                    self.assertRaises(RunError, one.run, tuple(spoilt), 50)
                    self.assertIsNone(one.board)

    def test_a_bad_number_behind_the_last_word(self):
        size = Size(4, 4)
        line = list(line_of(sender(2), program_bytes(CODE, size) + (5,), [0]))
        for place in range(len(line) - 42, len(line) - 40):
            line[place] ^= 1
        one = station(size, 2, (1, 2))
        self.assertIs(one.run(line, 40), False)
        self.assertEqual((one.spoilt, one.words, one.board.sent[:1]), (True, 7, [3]))
        # A number that fits changes nothing there.
        one = station(size, 2, (1, 2))
        self.assertIs(one.run(line_of(sender(2), program_bytes(CODE, size) + (5, 6), [0]), 40), False)
        self.assertEqual((one.spoilt, one.words, one.board.sent[:1]), (False, 7, [3]))

    def test_code_that_does_not_come(self):
        size = Size(4, 4)
        data = program_bytes(CODE, size)
        for line in ((), (1,) * 100, line_of(sender(2), data[:1], []), line_of(sender(2), data[:-1], [])):
            one = station(size, 2)
            self.assertRaises(RunError, one.run, line, 10)
            self.assertIsNone(one.board)
        # What is still to come may come in another line.
        one = station(size, 2, (1, 1))
        self.assertRaises(RunError, one.run, line_of(sender(2), data[:4], []), 10)
        self.assertIs(one.run(line_of(sender(2), data[4:], []), 12), False)
        self.assertEqual((one.words, one.board.sent), (7, [2]))

    def test_words_that_are_no_instructions_or_too_many(self):
        size = Size(4, 4)
        for data in ((1, 0x01), (2, 0x13, 0xB1), (1, 0xD5)):
            one = station(size, 2)
            self.assertRaises(CodeError, one.run, line_of(sender(2), data, []), 10)
            self.assertIsNone(one.board)
        one = station(Size(4, 2), 2)
        self.assertRaises(CodeError, one.run, line_of(sender(2), (5, *[0xB0] * 5), []), 10)

    def test_what_is_given_stays(self):
        coming = [1, 2]
        line = list(line_of(sender(2), program_bytes(CODE, Size(4, 4)), []))
        copy, one = list(line), station(Size(4, 4), 2, coming)
        one.run(line, 30)
        self.assertEqual((line, coming, one.coming), (copy, [1, 2], (1, 2)))


if __name__ == "__main__":
    unittest.main()
