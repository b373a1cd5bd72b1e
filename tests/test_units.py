"""Point 23: units."""

import itertools
import random
import unittest

from chipstack.errors import PlanError
from chipstack.plans import parse_plans
from chipstack.units import (check_size, first_text, gray_text, ones_text, plan_of, product_text, quotient_text,
                             sorted_text, turned_text)
from tests.levels import all_runs, found_run, keeps_of, netlist_of, runs_of


def products(width, a, b):
    """Return what the plan "product" gives."""
    return {"product": a * b}


def quotients(width, a, b):
    """Return what the plan "quotient" gives."""
    return {"quotient": a // b if b else 2 ** width - 1, "rest": a % b if b else a}


def turned(width, a, many):
    """Return what the plan "turned" gives, by turning a text."""
    text = f"{a:0{width}b}"
    return {"turned": int(text[many:] + text[:many], 2)}


def ones(a):
    """Return what the plan "ones" gives."""
    return {"ones": bin(a).count("1")}


def first(a):
    """Return what the plan "first" gives, by looking bit by bit."""
    places = [at for at in range(40) if a // 2 ** at % 2]
    return {"found": int(a > 0), "place": places[0] if places else 0}


class MadeTest(unittest.TestCase):
    def test_sizes(self):
        for number, least, most in ((1, 1, 1), (3, 1, 8), (1, 1, 8), (8, 1, 8), (0, 0, 0)):
            self.assertIsNone(check_size(number, least, most))
        for number, least, most in ((0, 1, 8), (9, 1, 8), (-1, 0, 3), (4, 0, 3), (2, 3, 1)):
            self.assertRaises(PlanError, check_size, number, least, most)

    def test_plan_of(self):
        text = plan_of("p", ["in a 1", "out b 1", "b = ~a"])
        self.assertEqual(text, "plan p\n  in a 1\n  out b 1\n  b = ~a\nend\n")
        self.assertEqual(parse_plans(text)["p"].plan_text(), text)
        lines = ["in a 1"]
        plan_of("p", lines)
        self.assertEqual(lines, ["in a 1"])
        self.assertEqual(plan_of("x9", []), "plan x9\nend\n")

    def test_one_plan_in_each_text_with_its_names(self):
        for text, name, ins, gives in (
                (product_text(5), "product", (("a", 5), ("b", 5)), (("product", 10),)),
                (quotient_text(5), "quotient", (("a", 5), ("b", 5)), (("quotient", 5), ("rest", 5))),
                (turned_text(2), "turned", (("a", 2), ("many", 1)), (("turned", 2),)),
                (turned_text(16), "turned", (("a", 16), ("many", 4)), (("turned", 16),)),
                (ones_text(9), "ones", (("a", 9),), (("ones", 6),)),
                (first_text(9), "first", (("a", 9),), (("found", 1), ("place", 5))),
                (sorted_text(3, 4), "sorted", (("x0", 4), ("x1", 4), ("x2", 4)), (("y0", 4), ("y1", 4), ("y2", 4))),
                (gray_text(7), "gray", (("go", 1),), (("code", 7),))):
            plans = parse_plans(text)
            self.assertEqual(list(plans), [name])
            self.assertEqual((plans[name].ins(), plans[name].gives()), (ins, gives))
            self.assertEqual(plans[name].plan_text(), text)
            self.assertEqual(keeps_of(text, name) != [], name == "gray")

    def test_sizes_that_are_none(self):
        for make, sizes in ((product_text, (-1, 0, 9, 16)), (quotient_text, (-1, 0, 9, 16)), (ones_text, (-1, 0, 33)),
                            (turned_text, (-2, 0, 1, 3, 5, 6, 7, 9, 12, 15, 17, 32)), (first_text, (-1, 0, 33)),
                            (gray_text, (-1, 0, 17))):
            for size in sizes:
                self.assertRaises(PlanError, make, size)
        for many, width in ((1, 4), (7, 4), (0, 4), (-1, 4), (3, 0), (3, 9), (3, -1), (1, 9)):
            self.assertRaises(PlanError, sorted_text, many, width)
        for many, width in ((2, 1), (2, 8), (6, 1), (6, 8)):
            parse_plans(sorted_text(many, width))


class ReckoningTest(unittest.TestCase):
    def hold(self, text, name, rows):
        """Hold a unit on three levels against rows of (what comes in, what goes out)."""
        for run in runs_of(text, name):
            for ins, outs in rows:
                self.assertEqual(run.given(ins), outs, (name, ins))

    def pairs(self, width, seed):
        """Return all pairs of numbers where they are few, else some, those at the edges among them."""
        if width <= 3:
            return list(itertools.product(range(2 ** width), repeat=2))
        draw, most = random.Random(seed), 2 ** width - 1
        edges = [(one, other) for one in (0, 1, 2, most - 1, most) for other in (0, 1, 2, most - 1, most)]
        drawn = [(draw.randrange(most + 1), draw.randrange(most + 1)) for _ in range(50)]
        alike = [(one, one) for one, other in drawn[:10]]
        return edges + drawn + alike + [(one, one + 1) for one, other in drawn[:10] if one < most]

    def test_products(self):
        for width in range(1, 9):
            rows = [({"a": a, "b": b}, products(width, a, b)) for a, b in self.pairs(width, width)]
            self.hold(product_text(width), "product", rows)

    def test_quotients(self):
        for width in range(1, 9):
            rows = [({"a": a, "b": b}, quotients(width, a, b)) for a, b in self.pairs(width, width)]
            self.hold(quotient_text(width), "quotient", rows)

    def test_all_products_and_quotients_of_four_bits(self):
        runs = [(runs_of(product_text(4), "product")[2], products), (runs_of(quotient_text(4), "quotient")[2], quotients)]
        for a, b in itertools.product(range(16), repeat=2):
            for run, reckoned in runs:
                self.assertEqual(run.given({"a": a, "b": b}), reckoned(4, a, b))

    def test_turned(self):
        for width in (2, 4, 8, 16):
            draw = random.Random(width)
            numbers = range(2 ** width) if width < 8 else [draw.randrange(2 ** width) for _ in range(12)] + [1, 0]
            rows = [({"a": a, "many": many}, turned(width, a, many)) for a in numbers for many in range(width)]
            self.hold(turned_text(width), "turned", rows)

    def numbers(self, width):
        """Return numbers of a width: all where they are few, else some, those with one bit among them."""
        if width <= 6:
            return list(range(2 ** width))
        draw = random.Random(width)
        found = [0, 2 ** width - 1, *[1 << bit for bit in range(width)]]
        return found + [draw.randrange(2 ** width) & -(1 << draw.randrange(width)) for _ in range(20)]

    def test_ones_and_first_ones(self):
        for width in (1, 2, 3, 4, 5, 6, 7, 8, 15, 16, 17, 31, 32):
            self.hold(ones_text(width), "ones", [({"a": a}, ones(a)) for a in self.numbers(width)])
            self.hold(first_text(width), "first", [({"a": a}, first(a)) for a in self.numbers(width)])

    def test_sorted(self):
        for many, width in itertools.product(range(2, 7), (1, 2, 5, 8)):
            draw = random.Random(10 * many + width)
            if many * width <= 8:
                told = list(itertools.product(range(2 ** width), repeat=many))
            else:
                told = [[draw.randrange(2 ** width) for _ in range(many)] for _ in range(30)]
                told += [[number] * many for number in (0, 1, 2 ** width - 1)]
                told += [sorted(row) for row in told[:5]] + [sorted(row, reverse=True) for row in told[:5]]
            rows = [({f"x{at}": number for at, number in enumerate(row)},
                     {f"y{at}": number for at, number in enumerate(sorted(row))}) for row in told]
            self.hold(sorted_text(many, width), "sorted", rows)

    def test_ups_and_downs_of_six(self):
        rows = []
        for row in itertools.permutations(range(6)):
            rows.append(({f"x{at}": number for at, number in enumerate(row)}, {f"y{at}": at for at in range(6)}))
        run = runs_of(sorted_text(6, 3), "sorted")[2]
        for ins, outs in rows:
            self.assertEqual(run.given(ins), outs)


class GrayTest(unittest.TestCase):
    def test_one_bit_changes_at_a_time_all_around(self):
        for width in (1, 2, 3, 4, 7):
            for run in runs_of(gray_text(width), "gray"):
                codes = [run.step({"go": 1})["code"] for _ in range(2 ** width + 2)]
                self.assertEqual(codes[0], 0)
                self.assertEqual(sorted(codes[:2 ** width]), list(range(2 ** width)))
                self.assertEqual(codes[2 ** width:], codes[:2])
                for one, other in zip(codes, codes[1:]):
                    self.assertEqual(bin(one ^ other).count("1"), 1)

    def test_the_count_xor_its_half(self):
        for width in (1, 3, 8, 15, 16):
            draw, runs, count = random.Random(width), runs_of(gray_text(width), "gray"), 0
            for _ in range(120):
                go = int(draw.random() < 0.7)
                for run in runs:
                    self.assertEqual(run.step({"go": go}), {"code": count ^ count // 2})
                count = (count + go) % 2 ** width

    def test_sixteen_bits_around(self):
        run = runs_of(gray_text(16), "gray")[2]
        for number in run.state:
            run.state[number] = 1
        self.assertEqual([run.step({"go": 1})["code"] for _ in range(3)], [0x8000, 0, 1])


class BytesTest(unittest.TestCase):
    def test_units_that_are_found_in_the_bytes(self):
        draw = random.Random(5)
        for text, name in ((product_text(4), "product"), (quotient_text(4), "quotient"), (turned_text(8), "turned"),
                           (ones_text(11), "ones"), (first_text(32), "first"), (sorted_text(4, 3), "sorted"),
                           (gray_text(5), "gray")):
            runs = all_runs(text, name)
            for _ in range(25):
                ins = {one: draw.randrange(2 ** width) for one, width in parse_plans(text)[name].ins()}
                outs = [run.step(ins) for run in runs]
                self.assertEqual(outs, [outs[0]] * len(runs))

    def test_the_greatest_product_is_placed(self):
        run = found_run(netlist_of(product_text(8), "product"))
        for a, b in ((255, 255), (255, 1), (0, 255), (171, 205)):
            self.assertEqual(run.given({"a": a, "b": b}), {"product": a * b})


if __name__ == "__main__":
    unittest.main()
