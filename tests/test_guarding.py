"""Point 25: words that are guarded, and rests."""

import itertools
import random
import unittest

from chipstack.errors import PlanError
from chipstack.guarding import guard_text, mend_text, odd_of, rest_text, spots_of
from chipstack.plans import parse_plans, width_of
from chipstack.plantext import PlanReader, marks_of
from tests.levels import all_runs, keeps_of, run_of, runs_of
from tests.reckon import number_of

LONG = {4: 8, 8: 13, 11: 16}


def own_word(width, data):
    """Return the word of data, put together place by place."""
    data_places, checks = spots_of(width)
    bits = {place: data >> at & 1 for at, place in enumerate(data_places)}
    for check in checks:
        bits[check] = sum(bits[place] for place in data_places if place // check % 2) % 2
    word = sum(bit << place - 1 for place, bit in bits.items())
    return word | bin(word).count("1") % 2 << LONG[width] - 1


def data_in(width, word):
    """Return the bits of data of a word as they are."""
    return sum((word >> place - 1 & 1) << at for at, place in enumerate(spots_of(width)[0]))


class PlacesTest(unittest.TestCase):
    def test_places(self):
        self.assertEqual(spots_of(4), ([3, 5, 6, 7], [1, 2, 4]))
        self.assertEqual(spots_of(8), ([3, 5, 6, 7, 9, 10, 11, 12], [1, 2, 4, 8]))
        self.assertEqual(spots_of(11), ([3, 5, 6, 7, 9, 10, 11, 12, 13, 14, 15], [1, 2, 4, 8]))
        for width in (-1, 0, 1, 3, 5, 7, 9, 10, 12, 16, 26):
            for make in (spots_of, guard_text, mend_text):
                self.assertRaises(PlanError, make, width)

    def test_what_is_told_is_not_held(self):
        spots_of(4)[0].append(9)
        spots_of(4)[1].clear()
        self.assertEqual(spots_of(4), ([3, 5, 6, 7], [1, 2, 4]))

    def test_odd_numbers_of_bits(self):
        self.assertEqual(odd_of("a", [0, 2]), "a[0] ^ a[2]")
        self.assertEqual(odd_of("word", (31,)), "word[31]")
        for bits in ([0, 2], [1], [0, 1, 2, 3, 4], list(range(23)), []):
            tree = PlanReader(marks_of(odd_of("a", bits))).expression()
            self.assertEqual(width_of(tree, {"a": 23}), 1)
            for number in (0, 2 ** 23 - 1, 5, 0x2A5A5A):
                self.assertEqual(number_of(tree, {"a": (number, 23)})[0], sum(number >> bit & 1 for bit in bits) % 2)


class WordsTest(unittest.TestCase):
    def test_names(self):
        for width in (4, 8, 11):
            guard, mend = parse_plans(guard_text(width)), parse_plans(mend_text(width))
            self.assertEqual((list(guard), list(mend)), (["guard"], ["mend"]))
            self.assertEqual((guard["guard"].ins(), guard["guard"].gives()), ((("data", width),), (("word", LONG[width]),)))
            self.assertEqual((mend["mend"].ins(), mend["mend"].gives()),
                             ((("word", LONG[width]),), (("data", width), ("turned", 1), ("lost", 1))))
            self.assertEqual((keeps_of(guard_text(width), "guard"), keeps_of(mend_text(width), "mend")), ([], []))

    def test_words_of_all_data(self):
        for width in (4, 8, 11):
            for run in runs_of(guard_text(width), "guard"):
                for data in range(0, 2 ** width, 1 if width < 11 else 7):
                    self.assertEqual(run.given({"data": data}), {"word": own_word(width, data)})
            self.assertEqual(run.given({"data": 2 ** width - 1})["word"], own_word(width, 2 ** width - 1))

    def test_all_data_is_read_back(self):
        for width in (4, 8, 11):
            for run in runs_of(mend_text(width), "mend"):
                for data in range(0, 2 ** width, 1 if width < 11 else 5):
                    self.assertEqual(run.given({"word": own_word(width, data)}), {"data": data, "turned": 0, "lost": 0})

    def test_one_turned_bit_is_put_right(self):
        for width in (4, 8, 11):
            draw = random.Random(width)
            told = range(16) if width == 4 else [0, 2 ** width - 1] + [draw.randrange(2 ** width) for _ in range(12)]
            for run in runs_of(mend_text(width), "mend"):
                for data, bit in itertools.product(told, range(LONG[width])):
                    word = own_word(width, data) ^ 1 << bit
                    self.assertEqual(run.given({"word": word}), {"data": data, "turned": 1, "lost": 0}, (width, data, bit))

    def test_two_turned_bits_are_lost(self):
        for width in (4, 8, 11):
            draw = random.Random(width)
            for run in runs_of(mend_text(width), "mend")[1:]:
                for one, other in itertools.combinations(range(LONG[width]), 2):
                    word = own_word(width, draw.randrange(2 ** width)) ^ 1 << one ^ 1 << other
                    self.assertEqual(run.given({"word": word}), {"data": data_in(width, word), "turned": 0, "lost": 1})

    def test_through_the_bytes(self):
        for width in (4, 8, 11):
            draw = random.Random(width)
            guards, mends = all_runs(guard_text(width), "guard"), all_runs(mend_text(width), "mend")
            for _ in range(10):
                data, bit = draw.randrange(2 ** width), draw.randrange(LONG[width])
                words = [run.step({"data": data})["word"] for run in guards]
                self.assertEqual(words, [own_word(width, data)] * len(guards))
                for run in mends:
                    self.assertEqual(run.step({"word": words[0]}), {"data": data, "turned": 0, "lost": 0})
                    self.assertEqual(run.step({"word": words[0] ^ 1 << bit}), {"data": data, "turned": 1, "lost": 0})


class RestTest(unittest.TestCase):
    def long_rest(self, bits, width, pattern):
        """Return the rest of bits as a long division of the whole number."""
        number, by = int("0" + "".join(str(bit) for bit in bits), 2), 2 ** width | pattern
        while number >> width:
            number ^= by << number.bit_length() - width - 1
        return number

    def test_names_and_sizes(self):
        plans = parse_plans(rest_text(5, 9))
        self.assertEqual(list(plans), ["rest"])
        self.assertEqual((plans["rest"].ins(), plans["rest"].gives()), ((("bit", 1), ("go", 1)), (("rest", 5),)))
        for width, pattern in ((0, 0), (17, 0), (-1, 0), (4, 16), (4, -1), (1, 2), (16, 65536)):
            self.assertRaises(PlanError, rest_text, width, pattern)
        for width, pattern in ((1, 0), (1, 1), (4, 15), (16, 65535), (16, 0)):
            parse_plans(rest_text(width, pattern))

    def test_a_rest_that_is_known(self):
        # Reckoned by hand: 13 and a 0 make 26, which goes beyond four bits: 10, and by the pattern 9.
        run, found = run_of(rest_text(4, 3), "rest"), []
        for bit in (1, 1, 0, 1, 0, 1, 1, 0):
            found.append(run.step({"bit": bit, "go": 1})["rest"])
        self.assertEqual(found, [0, 1, 3, 6, 13, 9, 0, 1])
        self.assertEqual(run.step({"bit": 0, "go": 0})["rest"], 2)
        self.assertEqual(run.step({"bit": 1, "go": 0})["rest"], 0)
        self.assertEqual(run.step({"bit": 1, "go": 1})["rest"], 0)
        self.assertEqual(run.step({"bit": 0, "go": 1})["rest"], 1)

    def test_drawn_rows_of_bits(self):
        for width in range(1, 17):
            draw = random.Random(width)
            for pattern in (0, 2 ** width - 1, draw.randrange(2 ** width)):
                runs, bits = runs_of(rest_text(width, pattern), "rest"), []
                for _ in range(60):
                    bit, go = draw.randrange(2), int(draw.random() < 0.97)
                    for run in runs:
                        told = run.step({"bit": bit, "go": go})["rest"]
                        self.assertEqual(told, self.long_rest(bits, width, pattern), (width, pattern, bits))
                    bits = [*bits, bit] if go else []

    def test_set_back_as_long_as_go_is_zero(self):
        for run in all_runs(rest_text(8, 0x1D), "rest"):
            for bit in (1, 0, 1, 1, 1, 0, 1, 1, 0, 1, 1):
                run.step({"bit": bit, "go": 1})
            told = [run.step({"bit": 1, "go": go})["rest"] for go in (0, 0, 0, 1, 1, 1)]
            self.assertEqual(told, [self.long_rest([1, 0, 1, 1, 1, 0, 1, 1, 0, 1, 1], 8, 0x1D), 0, 0, 0, 1, 3])


if __name__ == "__main__":
    unittest.main()
