"""Point 24: queues, turns, senders and receivers."""

import itertools
import random
import unittest

from chipstack.errors import PlanError
from chipstack.plans import parse_plans
from chipstack.traffic import queue_text, receiver_text, sender_text, turns_text
from tests.levels import all_runs, run_of, runs_of


def bits_sent(width, number):
    """Return the bits of a number on a line: a 0, the bits from the lowest on, whether they are odd, a 1."""
    bits = [number >> bit & 1 for bit in range(width)]
    return [0, *bits, sum(bits) % 2, 1]


def on_line(width, beats, number):
    """Return the beats of a number on a line."""
    return [bit for bit in bits_sent(width, number) for _ in range(beats)]


class OwnSender:
    """A sender that is told beat by beat, with a row of what is still to be sent."""

    def __init__(self, width, beats):
        self.width, self.beats, self.row = width, beats, []

    def step(self, ins):
        """Return what goes out."""
        if self.row:
            return {"line": self.row.pop(0), "busy": 1}
        if ins["go"]:
            self.row = on_line(self.width, self.beats, ins["number"])
        return {"line": 1, "busy": 0}


class OwnReceiver:
    """A receiver that looks at the middles of bits, with a row of what it heard."""

    def __init__(self, width, beats):
        self.width, self.beats, self.at, self.row, self.told = width, beats, None, [], None

    def step(self, ins):
        """Return (number, whether it is bad) of what was heard, or None."""
        told, self.told = self.told, None
        if self.at is None and ins["line"] == 0:
            self.at, self.row = 0, []
        if self.at is not None:
            self.look(ins["line"])
        return told

    def look(self, bit):
        """Look at a beat of a number."""
        if self.at % self.beats == (self.beats - 1) // 2:
            self.row.append(bit)
            if self.row == [1]:
                self.at = None
                return
            if len(self.row) == self.width + 3:
                number = sum(one << at for at, one in enumerate(self.row[1:self.width + 1]))
                self.told = (number, int(self.row != bits_sent(self.width, number)))
        self.at += 1
        if self.at == (self.width + 3) * self.beats:
            self.at = None


def heard_by(run, line):
    """Return (beat, number, whether it is bad) of all that a receiver tells of a line."""
    found = []
    for beat, bit in enumerate(line):
        outs = run.step({"line": bit})
        if outs["ready"] or outs["bad"]:
            found.append((beat, outs["number"], outs["bad"]))
    return found


class NamesTest(unittest.TestCase):
    def test_names_and_widths(self):
        for text, name, ins, gives in (
                (queue_text(3, 5), "queue", (("put", 1), ("number", 5), ("get", 1)),
                 (("first", 5), ("some", 1), ("full", 1))),
                (turns_text(7), "turns", (("ask", 7),), (("give", 7),)),
                (sender_text(6, 3), "sender", (("number", 6), ("go", 1)), (("line", 1), ("busy", 1))),
                (receiver_text(6, 3), "receiver", (("line", 1),), (("number", 6), ("ready", 1), ("bad", 1)))):
            plans = parse_plans(text)
            self.assertEqual(list(plans), [name])
            self.assertEqual((sorted(plans[name].ins()), sorted(plans[name].gives())), (sorted(ins), sorted(gives)))

    def test_sizes_that_are_none(self):
        for make, least, most in ((queue_text, (1, 1), (8, 16)), (sender_text, (1, 1), (8, 8)),
                                  (receiver_text, (1, 1), (8, 8))):
            for one, other in itertools.product((least[0], most[0]), (least[1], most[1])):
                parse_plans(make(one, other))
                for pair in ((least[0] - 1, other), (most[0] + 1, other), (one, least[1] - 1), (one, most[1] + 1)):
                    self.assertRaises(PlanError, make, *pair)
        for many in (-1, 0, 1, 9, 16):
            self.assertRaises(PlanError, turns_text, many)
        for many in (2, 8):
            parse_plans(turns_text(many))


class QueueTest(unittest.TestCase):
    def hold(self, places, width, wishes, runs):
        """Hold queues against a list, for wishes (put, number, get)."""
        row = []
        for put, number, get in wishes:
            told = {"first": row[0] if row else 0, "some": int(row != []), "full": int(len(row) == places)}
            for run in runs:
                self.assertEqual(run.step({"put": put, "number": number, "get": get}), told, (places, width, row))
            if get and row:
                row.pop(0)
            if put and len(row) < places:
                row.append(number)

    def test_drawn_wishes(self):
        for places, width in itertools.product(range(1, 9), (1, 4, 16)):
            draw, wishes = random.Random(100 * places + width), []
            for likely in (0.8, 0.5, 0.2):
                wishes += [(int(draw.random() < likely), draw.randrange(2 ** width), int(draw.random() < 0.5))
                           for _ in range(50)]
            self.hold(places, width, wishes, runs_of(queue_text(places, width), "queue"))

    def test_full_and_empty(self):
        for places in (1, 2, 8):
            wishes = [(0, 5, 1), (0, 5, 0), *[(1, number, 0) for number in range(1, places + 3)],
                      *[(1, number, 1) for number in range(20, 24)], *[(0, 9, 1)] * (places + 2), (1, 7, 1), (1, 8, 1),
                      (0, 0, 1), (0, 0, 1)]
            self.hold(places, 5, wishes, all_runs(queue_text(places, 5), "queue"))

    def test_one_place_put_and_got_in_the_same_beat(self):
        run = run_of(queue_text(1, 4), "queue")
        for put, number, get, told in ((1, 3, 1, (0, 0, 0)), (1, 4, 0, (3, 1, 1)), (1, 5, 1, (3, 1, 1)),
                                       (0, 0, 1, (5, 1, 1)), (0, 0, 0, (0, 0, 0))):
            outs = run.step({"put": put, "number": number, "get": get})
            self.assertEqual((outs["first"], outs["some"], outs["full"]), told)


class TurnsTest(unittest.TestCase):
    def hold(self, many, asks, runs):
        """Hold turns against a looking one by one; return who had it in each beat, None for nobody."""
        last, found = many - 1, []
        for ask in asks:
            order = [(last + more) % many for more in range(1, many + 1)]
            has = next((one for one in order if ask >> one & 1), None)
            for run in runs:
                self.assertEqual(run.step({"ask": ask}), {"give": 0 if has is None else 1 << has}, (many, ask, last))
            last = last if has is None else has
            found.append(has)
        return found

    def test_drawn_asks(self):
        for many in range(2, 9):
            draw, full = random.Random(many), 2 ** many - 1
            asks = [draw.choice([0, full, draw.randrange(full + 1), 1 << draw.randrange(many)]) for _ in range(120)]
            self.hold(many, asks, runs_of(turns_text(many), "turns"))

    def test_who_goes_on_asking_has_it_in_time(self):
        for many in range(2, 9):
            draw, run = random.Random(many), run_of(turns_text(many), "turns")
            for who in range(many):
                asks = [1 << who | draw.randrange(2 ** many) for _ in range(6 * many)]
                given = [run.step({"ask": ask})["give"] for ask in asks]
                for start in range(len(given) - many + 1):
                    self.assertIn(1 << who, given[start:start + many])

    def test_all_none_and_one(self):
        for many in (2, 5, 8):
            runs, full = all_runs(turns_text(many), "turns"), 2 ** many - 1
            self.assertEqual(self.hold(many, [full] * (many + 1), runs), [*range(many), 0])
            runs = all_runs(turns_text(many), "turns")
            self.assertEqual(self.hold(many, [0, 0, full, 0, 0, full, 2, 2, 2, full], runs),
                             [None, None, 0, None, None, 1, 1, 1, 1, 2 % many])


class SenderTest(unittest.TestCase):
    def test_drawn_wishes(self):
        for width, beats in itertools.product((1, 2, 5, 8), (1, 2, 3, 7, 8)):
            draw, own = random.Random(10 * width + beats), OwnSender(width, beats)
            runs = runs_of(sender_text(width, beats), "sender")
            for _ in range(5 * (width + 3) * beats):
                ins = {"number": draw.randrange(2 ** width), "go": int(draw.random() < 0.3)}
                outs = own.step(ins)
                for run in runs:
                    self.assertEqual(run.step(ins), outs, (width, beats))

    def test_one_number(self):
        run, lines, busy = run_of(sender_text(4, 2), "sender"), [], []
        for go, number in [(0, 3), (1, 13), *[(0, 2)] * 16]:
            outs = run.step({"number": number, "go": go})
            lines.append(outs["line"])
            busy.append(outs["busy"])
        self.assertEqual(lines, [1, 1, 0, 0, 1, 1, 0, 0, 1, 1, 1, 1, 1, 1, 1, 1, 1, 1])
        self.assertEqual(busy, [0, 0, *[1] * 14, 0, 0])

    def test_go_counts_at_rest_alone(self):
        for beats in (1, 3):
            for run in all_runs(sender_text(3, beats), "sender"):
                told = [run.step({"number": 5, "go": 1})]
                told += [run.step({"number": number % 8, "go": 1}) for number in range(6 * beats)]
                self.assertEqual([outs["line"] for outs in told], [1, *on_line(3, beats, 5)])
                self.assertEqual([outs["busy"] for outs in told], [0, *[1] * (6 * beats)])
                # One right behind the other: there is one beat at rest between them, in which go is told.
                told = [run.step({"number": 2, "go": 1}) for _ in range(6 * beats + 1)]
                self.assertEqual([outs["line"] for outs in told], [1, *on_line(3, beats, 2)])


class ReceiverTest(unittest.TestCase):
    def hold(self, width, beats, line, runs):
        """Hold receivers against one of the test's own; return what was heard."""
        own = OwnReceiver(width, beats)
        told = [own.step({"line": bit}) for bit in line]
        rows = [(beat, *row) for beat, row in enumerate(told) if row is not None]
        for run in runs:
            self.assertEqual(heard_by(run, line), rows, (width, beats))
        return rows

    def test_a_number_is_told_behind_its_last_middle_once(self):
        for width, beats in itertools.product(range(1, 9), range(1, 9)):
            number = 0x5A % 2 ** width
            for ahead in (0, 1, 5):
                line = [1] * ahead + on_line(width, beats, number) + [1] * 30
                beat = ahead + (width + 2) * beats + (beats - 1) // 2 + 1
                run = run_of(receiver_text(width, beats), "receiver")
                told = [run.step({"line": bit}) for bit in line]
                self.assertEqual([at for at, outs in enumerate(told) if outs["ready"]], [beat])
                self.assertEqual((told[beat]["number"], [outs["bad"] for outs in told]), (number, [0] * len(line)))

    def test_senders_and_receivers_side_by_side(self):
        for width, beats in itertools.product((1, 3, 8), (1, 2, 5, 8)):
            draw = random.Random(10 * width + beats)
            senders = runs_of(sender_text(width, beats), "sender")
            line, sent = [], []
            for _ in range(12):
                number = draw.choice([0, 2 ** width - 1, draw.randrange(2 ** width)])
                for wish in [(number, 1)] + [(draw.randrange(2 ** width), 0)] * ((width + 3) * beats + draw.choice([0, 0, 1, 9])):
                    bits = [sender.step({"number": wish[0], "go": wish[1]})["line"] for sender in senders]
                    self.assertEqual(bits, [bits[0]] * len(senders))
                    line.append(bits[0])
                sent.append(number)
            line += [1] * 4
            heard = self.hold(width, beats, line, runs_of(receiver_text(width, beats), "receiver"))
            self.assertEqual([row[1:] for row in heard], [(number, 0) for number in sent])

    def test_numbers_without_rest_between_them(self):
        for width, beats in itertools.product((1, 4, 8), range(1, 9)):
            numbers = [number % 2 ** width for number in (0, 255, 170, 85, 1, 254)]
            line = [bit for number in numbers for bit in on_line(width, beats, number)] + [1] * 20
            heard = self.hold(width, beats, line, [run_of(receiver_text(width, beats), "receiver")])
            self.assertEqual([row[1:] for row in heard], [(number, 0) for number in numbers])

    def test_a_turned_bit_in_each_of_its_places(self):
        for width, beats in itertools.product((1, 4, 8), range(1, 9)):
            number = 0xA7 % 2 ** width
            for place in range(1, width + 3):
                bits = bits_sent(width, number)
                bits[place] ^= 1
                line = [1] * 3 + [bit for bit in bits for _ in range(beats)] + [1] * (12 * beats)
                told = number ^ 1 << place - 1 if place <= width else number
                heard = self.hold(width, beats, line, [run_of(receiver_text(width, beats), "receiver")])
                self.assertEqual([row[1:] for row in heard], [(told, 1)], (width, beats, place))

    def test_what_is_bad_and_ready(self):
        run = run_of(receiver_text(4, 1), "receiver")
        told = [run.step({"line": bit}) for bit in [0, 1, 1, 0, 0, 1, 1, 1, 1]]
        self.assertEqual([(outs["ready"], outs["bad"]) for outs in told], [(0, 0)] * 7 + [(1, 1), (0, 0)])
        told = [run.step({"line": bit}) for bit in [0, 1, 1, 0, 0, 0, 0, 1, 1]]
        self.assertEqual([(outs["ready"], outs["bad"]) for outs in told], [(0, 0)] * 7 + [(1, 1), (0, 0)])
        told = [run.step({"line": bit}) for bit in [0, 1, 1, 0, 0, 0, 1, 1, 1]]
        self.assertEqual([(outs["ready"], outs["bad"]) for outs in told], [(0, 0)] * 7 + [(1, 0), (0, 0)])

    def test_a_zero_that_is_over_before_its_middle(self):
        for width, beats in itertools.product((1, 8), range(1, 9)):
            middle = (beats - 1) // 2
            for long in range(1, beats + 1):
                run = run_of(receiver_text(width, beats), "receiver")
                line = [1] * 2 + [0] * long + [1] * 100
                heard = self.hold(width, beats, line, [run])
                self.assertEqual(heard == [], long <= middle)
            # Behind such a 0 a number is heard as ever.
            line = [1] + [0] * middle + [1] * 9 + on_line(width, beats, 1) + [1] * 9
            heard = heard_by(run_of(receiver_text(width, beats), "receiver"), line)
            self.assertEqual([row[1:] for row in heard], [(1, 0)])

    def test_drawn_lines(self):
        for width, beats in ((1, 1), (2, 2), (3, 3), (5, 4), (8, 5), (4, 6), (8, 7), (8, 8)):
            draw = random.Random(10 * width + beats)
            line = []
            for _ in range(30):
                line += [1] * draw.randrange(5) + on_line(width, beats, draw.randrange(2 ** width))
            for at in range(len(line)):
                line[at] ^= draw.random() < 0.03
            self.hold(width, beats, line + [1] * 100, runs_of(receiver_text(width, beats), "receiver"))

    def test_in_the_bytes(self):
        draw = random.Random(3)
        line = [bit for _ in range(6) for bit in [1] * draw.randrange(4) + on_line(4, 3, draw.randrange(16))] + [1] * 9
        heard = self.hold(4, 3, line, all_runs(receiver_text(4, 3), "receiver"))
        self.assertEqual(len(heard), 6)


if __name__ == "__main__":
    unittest.main()
