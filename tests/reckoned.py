"""A reckoning of programs as circuits of their own have it: a place beyond a row is its last one."""


class Reckoned:
    """A program's numbers and rows, what comes in, what it sends out, and how many statements it carried out."""

    def __init__(self, program, data, coming=()):
        numbers, rows, self.body = program.shown()
        self.modulus, self.coming, self.sent, self.many = 2 ** data, list(coming), [], 0
        self.numbers = {name: first % self.modulus for name, first in numbers}
        self.rows = {name: [0] * size for name, size in rows}

    def spot(self, name, tree):
        """Return the place of a row that an expression tells."""
        return min(self.value(tree), len(self.rows[name]) - 1)

    def value(self, tree):
        """Return the value of an expression."""
        kind = tree[0]
        if kind == "number":
            return tree[1] % self.modulus
        if kind == "name":
            return self.numbers[tree[1]]
        if kind == "at":
            return self.rows[tree[1]][self.spot(tree[1], tree[2])]
        if kind == "half":
            return self.value(tree[1]) // 2
        if kind == "in":
            return self.coming.pop(0) % self.modulus if self.coming else 0
        one = self.value(tree[2])
        other = self.value(tree[3])
        told = {"+": one + other, "-": one - other, "&": one & other, "^": one ^ other, "==": one == other,
                "!=": one != other, "<": one < other}
        return int(told[tree[1]]) % self.modulus

    def run(self, body=None, most=100000):
        """Carry out statements; stop with an error if that takes too many."""
        for row in self.body if body is None else body:
            self.many += 1
            if self.many > most:
                raise OverflowError
            if row[0] == "put":
                self.numbers[row[1]] = self.value(row[2])
            elif row[0] == "put_at":
                spot = self.spot(row[1], row[2])
                self.rows[row[1]][spot] = self.value(row[3])
            elif row[0] == "out":
                self.sent.append(self.value(row[1]))
            elif row[0] == "if":
                self.run(row[2] if self.value(row[1]) != 0 else row[3], most)
            else:
                while self.value(row[1]) != 0:
                    self.many += 1
                    self.run(row[2], most)
        return self
