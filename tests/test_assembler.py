"""Point 13: lines of code."""

import random
import unittest

from chipstack.assembler import assemble, check_label, instruction_of, line_parts, listing
from chipstack.errors import CodeError
from chipstack.isa import Machine, Size
from tests.machine import drawn_code

SIZE = Size(4, 4)
COUNT = """
// counts down from what comes in
      in
again: out        // also the last one
      zero done
      store 0
      set 1
      store 1
      load 0
      sub 1
      jump again
done: last:
      halt
"""


class PartsTest(unittest.TestCase):
    def test_two_lists(self):
        for line, told in (("", ([], [])), ("   ", ([], [])), ("// set 1", ([], [])), ("halt", ([], ["halt"])),
                           ("  set   5  ", ([], ["set", "5"])), ("a: set 5 // b: c", (["a"], ["set", "5"])),
                           ("a: b2:", (["a", "b2"], [])), ("a:b: jump a", (["a", "b"], ["jump", "a"])),
                           ("a://x", (["a"], [])), ("one two three", ([], ["one", "two", "three"]))):
            self.assertEqual(line_parts(line), told, line)
            self.assertIs(type(line_parts(line)), tuple)
            self.assertEqual([type(part) for part in line_parts(line)], [list, list])

    def test_bad_names(self):
        for line in (":", ": set 1", "1a: set 1", "A: halt", "a_b: halt", "a-b:", "a b: halt", "set 5:", "a" * 21 + ":",
                     "a: : halt", "a.b: halt"):
            self.assertRaises(CodeError, line_parts, line)
            self.assertRaises(CodeError, assemble, line, SIZE)

    def test_labels(self):
        for name in ("a", "z", "a1", "a" * 20, "abc09xyz", "set", "in", "end"):
            self.assertIsNone(check_label(name))
        for name in ("", "1", "9a", "a" * 21, "A", "aB", "a b", " a", "a:", "a_", "a-", "a."):
            self.assertRaises(CodeError, check_label, name)


class AssembleTest(unittest.TestCase):
    def test_a_text(self):
        code = assemble(COUNT, SIZE)
        self.assertEqual(code, (("in", 0), ("out", 0), ("zero", 9), ("store", 0), ("set", 1), ("store", 1), ("load", 0),
                                ("sub", 1), ("jump", 1), ("halt", 0)))
        self.assertIs(type(code), tuple)
        machine = Machine(SIZE, code, [3])
        machine.run(100)
        self.assertEqual(machine.sent, [3, 2, 1, 0])

    def test_nothing(self):
        for text in ("", "\n", "\n\n  \n// only remarks\n"):
            self.assertEqual(assemble(text, SIZE), ())

    def test_every_word(self):
        text = "\n".join(["halt", "set 1", "load 2", "store 3", "add 4", "sub 5", "and 6", "xor 7", "jump 8", "zero 9",
                          "less 10", "out", "in", "half", "from 14", "to 15"])
        self.assertEqual([row[1] for row in assemble(text, SIZE)], [0, 1, 2, 3, 4, 5, 6, 7, 8, 9, 10, 0, 0, 0, 14, 15])

    def test_places_of_names(self):
        text = "a: b: set 1\nc:\n\nd: jump e\nless a\nzero c\njump d\njump b\ne: // behind the last line"
        self.assertEqual([row[1] for row in assemble(text, SIZE)], [1, 6, 0, 1, 1, 0])

    def test_the_place_behind_the_last_line(self):
        self.assertEqual(assemble("jump end\nend:", Size(4, 2)), (("jump", 1),))
        # Behind the last place of all there is none.
        self.assertEqual(assemble("out\nout\nout\nout\nend:", Size(4, 2)), (("out", 0),) * 4)
        self.assertRaises(CodeError, assemble, "jump end\nout\nout\nout\nend:", Size(4, 2))

    def test_code_that_just_fits(self):
        for bits in (2, 3, 8):
            text = "out\n" * 2 ** bits
            self.assertEqual(len(assemble(text, Size(4, bits))), 2 ** bits)
            self.assertEqual(len(assemble(text + "a: // no instruction", Size(4, bits))), 2 ** bits)
            self.assertRaises(CodeError, assemble, text + "out", Size(4, bits))

    def test_numbers(self):
        self.assertEqual(assemble("set 255\nset 007\nset 000\njump 128", Size(8, 8)),
                         (("set", 255), ("set", 7), ("set", 0), ("jump", 128)))
        for line in ("set 256", "set 999", "set 1000", "set 0001", "set -1", "set +1", "set 1.0", "set x", "set 1x",
                     "jump 256"):
            self.assertRaises(CodeError, assemble, line, Size(8, 8))
        self.assertRaises(CodeError, assemble, "set 16", SIZE)
        self.assertRaises(CodeError, assemble, "jump 16", SIZE)

    def test_lines_that_are_none(self):
        for line in ("sett 1", "SET 1", "set", "set 1 2", "halt 0", "out 1", "in 0", "half 1", "jump", "jump 1 2", "5",
                     "set: 5", "jump a:", "nothing"):
            self.assertRaises(CodeError, assemble, "out\n" + line, SIZE)

    def test_names_unknown_or_told_twice(self):
        for text in ("jump a", "a: jump b", "a: out\na: out", "a: a: out", "a:\na:", "a: set a", "a: load a",
                     "a: from a"):
            self.assertRaises(CodeError, assemble, text, SIZE)

    def test_instructions_of_words(self):
        self.assertEqual(instruction_of(["set", "12"], {}), ("set", 12))
        self.assertEqual(instruction_of(["out"], {}), ("out", 0))
        places = {"a": 7}
        self.assertEqual([instruction_of([word, "a"], places) for word in ("jump", "zero", "less")],
                         [("jump", 7), ("zero", 7), ("less", 7)])
        self.assertEqual(instruction_of(["jump", "999"], places), ("jump", 999))
        for words in ([], [""], ["a"], ["sett", "1"], ["SET", "1"], ["set"], ["set", ""], ["set", "a"], ["jump", "b"], ["out", "1"], ["set", "1", "2"],
                      ["set", "1234"]):
            self.assertRaises(CodeError, instruction_of, words, places)
        self.assertEqual(places, {"a": 7})


class ListingTest(unittest.TestCase):
    def test_lines(self):
        code = [("set", 3), ("zero", 3), ("jump", 0), ("out", 0), ("less", 9), ("halt", 0), ("jump", 7)]
        self.assertEqual(listing(code), "p0: set 3\nzero p3\njump p0\np3: out\nless 9\nhalt\njump 7\n")
        self.assertEqual((listing([]), listing((("out", 0),))), ("", "out\n"))

    def test_listings_assemble_to_the_same(self):
        for seed in range(60):
            draw = random.Random(seed)
            data, bits = draw.choice([(2, 2), (4, 6), (8, 8), (3, 8)])
            code = drawn_code(draw, data, bits, draw.randint(0, 2 ** bits))
            text = listing(code)
            self.assertEqual(assemble(text, Size(data, bits)), code)
            self.assertEqual(len(text.splitlines()), len(code))


if __name__ == "__main__":
    unittest.main()
