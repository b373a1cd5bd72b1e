"""Point 12: instructions, their codes, and the machine."""

import random
import unittest

from chipstack.errors import CodeError, RunError
from chipstack.isa import INSTRUCTIONS, JUMPS, PLAIN, Machine, Size, check_instruction, decoded, encoded
from tests.machine import ALONE, GOING, WORDS, OwnMachine, drawn_code

SIZES = [(data, code) for data in range(2, 9) for code in range(2, 9)]


def run(code, coming=(), data=4, code_bits=6, most=100):
    """Return a machine that carried out code."""
    machine = Machine(Size(data, code_bits), code, coming)
    machine.run(most)
    return machine


class SizeTest(unittest.TestCase):
    def test_bits(self):
        for data, code in SIZES:
            size = Size(data, code)
            self.assertEqual((size.data, size.code, size.argument(), size.width()),
                             (data, code, max(data, code), 4 + max(data, code)))

    def test_sizes_that_are_none(self):
        for data, code in ((1, 4), (9, 4), (4, 1), (4, 9), (0, 0), (-2, 4), (4, -2), (100, 2)):
            self.assertRaises(CodeError, Size, data, code)


class InstructionTest(unittest.TestCase):
    def test_order_and_classes(self):
        self.assertEqual(INSTRUCTIONS, tuple(WORDS))
        self.assertEqual((PLAIN, JUMPS), (ALONE, GOING))
        for number, word in enumerate(WORDS):
            self.assertEqual(encoded((word, 0), Size(8, 8)), number * 256)

    def test_numbers_that_fit(self):
        for data, code in SIZES:
            size = Size(data, code)
            for word in WORDS:
                most = 1 if word in ALONE else 2 ** code if word in GOING else 2 ** data
                for number in (0, 1, most - 1, most, most + 1, 255, 256, -1):
                    if 0 <= number < most:
                        check_instruction((word, number), size)
                        coded = encoded((word, number), size)
                        self.assertEqual(coded, WORDS.index(word) * 2 ** max(data, code) + number)
                        self.assertEqual(decoded(coded, size), (word, number))
                    else:
                        self.assertRaises(CodeError, check_instruction, (word, number), size)
                        self.assertRaises(CodeError, encoded, (word, number), size)

    def test_every_code(self):
        for data, code in ((2, 2), (2, 4), (4, 2), (3, 3), (8, 8)):
            size, many = Size(data, code), 0
            for one in range(1 << size.width()):
                try:
                    row = decoded(one, size)
                except CodeError:
                    continue
                many += 1
                self.assertIs(type(row), tuple)
                self.assertEqual(encoded(row, size), one)
            self.assertEqual(many, 4 + 3 * 2 ** code + 9 * 2 ** data)
            for one in (-1, 1 << size.width(), 1 << 20):
                self.assertRaises(CodeError, decoded, one, size)

    def test_what_is_no_instruction(self):
        size = Size(4, 4)
        for row in (("set",), ("set", 1, 2), (), ("jmp", 1), ("", 0), ("Set", 1), ("set", "1"), ("set", None), ("halt", 1),
                    ("out", 1), ("in", 2), ("half", 15), ("set", 16), ("jump", 16), ("load", -1)):
            self.assertRaises(CodeError, check_instruction, row, size)
            self.assertRaises(CodeError, encoded, row, size)
            self.assertRaises(CodeError, Machine, size, [row])
            self.assertRaises(CodeError, Machine, size, [("set", 1), row])


class EachInstructionTest(unittest.TestCase):
    def after(self, *code, coming=(), data=4):
        """Return (accumulator, carry, place, memory, sent) behind instructions."""
        machine = Machine(Size(data, 6), code, coming)
        for _ in code:
            machine.step()
        shown = machine.shown()
        return shown[0], shown[1], shown[2], shown[3], shown[4]

    def test_beginning(self):
        machine = Machine(Size(3, 2), [], [1, 2])
        self.assertEqual(machine.shown(), (0, 0, 0, (0,) * 8, (), False))
        self.assertEqual((machine.code, machine.coming, machine.memory, machine.sent, machine.halted),
                         ((), [1, 2], [0] * 8, [], False))
        self.assertEqual(machine.instruction(), ("halt", 0))

    def test_halt_stays(self):
        machine = Machine(Size(4, 4), [("set", 3), ("halt", 0), ("out", 0)])
        self.assertIs(machine.run(9), True)
        self.assertEqual((machine.shown()[2], machine.halted, machine.instruction()), (1, True, ("halt", 0)))
        shown = machine.shown()
        self.assertRaises(RunError, machine.step)
        self.assertEqual(machine.shown(), shown)
        self.assertIs(machine.run(5), True)
        self.assertEqual(machine.shown(), shown)

    def test_set_load_store(self):
        acc, carry, place, memory, sent = self.after(("set", 15), ("store", 3), ("set", 1), ("load", 3))
        self.assertEqual((acc, carry, place, memory[3], sum(memory), sent), (15, 0, 4, 15, 15, ()))

    def test_sums_that_just_carry(self):
        for one in range(16):
            for other in range(16):
                acc, carry = self.after(("set", other), ("store", 9), ("set", one), ("add", 9))[:2]
                self.assertEqual((acc, carry), ((one + other) % 16, int(one + other > 15)))
                acc, carry = self.after(("set", other), ("store", 9), ("set", one), ("sub", 9))[:2]
                self.assertEqual((acc, carry), ((one - other) % 16, int(one < other)))

    def test_the_carry_goes_again(self):
        code = [("set", 15), ("store", 0), ("add", 0), ("set", 1), ("store", 1)]
        self.assertEqual(self.after(*code)[1], 1)
        self.assertEqual(self.after(*code, ("add", 1))[1], 0)
        self.assertEqual(self.after(*code, ("sub", 1))[1], 0)
        self.assertEqual(self.after(*code, ("set", 2), ("half", 0))[1], 0)
        # All else leaves it as it is.
        for row in (("set", 0), ("load", 1), ("and", 1), ("xor", 1), ("in", 0), ("out", 0), ("from", 1), ("to", 1),
                    ("jump", 6), ("zero", 1), ("store", 5)):
            self.assertEqual(self.after(*code, row)[1], 1, row)

    def test_and_xor_half(self):
        code = [("set", 12), ("store", 1), ("set", 10)]
        self.assertEqual(self.after(*code, ("and", 1))[:2], (8, 0))
        self.assertEqual(self.after(*code, ("xor", 1))[:2], (6, 0))
        self.assertEqual(self.after(("set", 11), ("half", 0))[:2], (5, 1))
        self.assertEqual(self.after(("set", 10), ("half", 0))[:2], (5, 0))

    def test_jumps(self):
        self.assertEqual(self.after(("jump", 9))[2], 9)
        self.assertEqual(self.after(("zero", 9))[2], 9)
        self.assertEqual(self.after(("set", 1), ("zero", 9))[2], 2)
        self.assertEqual(self.after(("less", 9))[2], 1)
        self.assertEqual(self.after(("set", 1), ("half", 0), ("less", 9))[2], 9)

    def test_in_and_out(self):
        machine = run([("in", 0), ("out", 0)] * 4, [3, 16 + 5, 255])
        self.assertEqual((machine.sent, machine.coming), ([3, 5, 15, 0], []))
        given = [1, 2]
        machine = run([("in", 0)], given)
        self.assertEqual((machine.coming, given), ([2], [1, 2]))

    def test_from_and_to(self):
        code = [("set", 15), ("store", 0), ("set", 7), ("to", 0), ("set", 0), ("from", 0), ("out", 0)]
        machine = run(code)
        self.assertEqual((machine.sent, machine.memory[15]), ([7], 7))
        # "to" the greatest place, told by the greatest place.
        machine = run([("set", 15), ("store", 15), ("set", 6), ("to", 15), ("from", 15), ("out", 0)])
        self.assertEqual((machine.sent, machine.memory[15]), ([0], 6))

    def test_behind_the_last_place_comes_place_0(self):
        machine = Machine(Size(2, 2), [("out", 0), ("set", 1), ("out", 0), ("set", 2)])
        self.assertIs(machine.run(6), False)
        self.assertEqual((machine.sent, machine.shown()[2]), ([0, 1, 2], 2))

    def test_behind_the_codes_end_all_are_halts(self):
        machine = run([("jump", 40), ("out", 0)])
        self.assertEqual((machine.shown()[2], machine.halted, machine.sent), (40, True, []))
        self.assertEqual(run([]).shown()[2], 0)

    def test_code_that_just_fits(self):
        for bits in (2, 3, 8):
            code = [("out", 0)] * (1 << bits)
            self.assertEqual(len(Machine(Size(4, bits), code).code), 1 << bits)
            self.assertRaises(CodeError, Machine, Size(4, bits), [*code, ("out", 0)])

    def test_runs_of_so_many(self):
        machine = Machine(Size(4, 4), [("set", 1), ("jump", 0)])
        self.assertIs(machine.run(0), False)
        self.assertEqual(machine.shown()[0], 0)
        self.assertIs(machine.run(1), False)
        self.assertEqual(machine.shown()[:3], (1, 0, 1))
        self.assertIs(machine.run(200), False)
        last = Machine(Size(4, 4), [("set", 1), ("halt", 0)])
        self.assertEqual([last.run(1), last.run(1)], [False, True])


class DrawnCodeTest(unittest.TestCase):
    def test_side_by_side(self):
        for seed in range(120):
            draw = random.Random(seed)
            data, bits = draw.choice(SIZES)
            code = drawn_code(draw, data, bits, draw.randint(1, 2 ** bits))
            coming = [draw.randrange(600) for _ in range(draw.randint(0, 20))]
            machine, own = Machine(Size(data, bits), code, coming), OwnMachine(data, bits, code, coming)
            self.assertEqual(machine.code, code)
            for _ in range(150):
                if own.halted:
                    self.assertRaises(RunError, machine.step)
                    break
                own.step()
                machine.step()
                self.assertEqual(machine.shown(), own.shown())
                self.assertEqual(machine.coming, own.coming)
                self.assertEqual((list(own.memory.values()), own.sent, own.halted),
                                 (machine.memory, machine.sent, machine.halted))

    def test_what_is_given_stays(self):
        code, coming = [["set", 3], ["out", 0], ["in", 0]], [4]
        machine = Machine(Size(4, 4), code, coming)
        machine.run(9)
        self.assertEqual((code, coming), ([["set", 3], ["out", 0], ["in", 0]], [4]))


if __name__ == "__main__":
    unittest.main()
