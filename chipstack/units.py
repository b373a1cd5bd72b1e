"""Units: plans of circuits that reckon, made for any width."""

from chipstack.errors import PlanError

BITS_OF_ONES = 6
BITS_OF_PLACE = 5


def check_size(number, least, most):
    """Raise PlanError for a number that is not between two others."""
    if not least <= number <= most:
        raise PlanError(f"{number} is not from {least} to {most}")


def plan_of(name, lines):
    """Return the text of a plan of some lines."""
    return "\n".join([f"plan {name}", *["  " + line for line in lines], "end", ""])


def product_text(width):
    """Return the plan "product": a and b of a width come in, their product of twice the width goes out as product.

    It is a sum of a, shifted, for each bit of b. Widths are 1 to 8.
    """
    check_size(width, 1, 8)
    twice = 2 * width
    lines = [f"in a {width}", f"in b {width}", f"out product {twice}", f"let one = wide(a, {twice})"]
    lines.append(f"let sum0 = if b[0] then one else 0:{twice}")
    for bit in range(1, width):
        lines.append(f"let sum{bit} = sum{bit - 1} + (if b[{bit}] then one << {bit} else 0:{twice})")
    lines.append(f"product = sum{width - 1}")
    return plan_of("product", lines)


def quotient_text(width):
    """Return the plan "quotient": a and b come in, quotient and rest go out.

    By 0 the quotient is all ones, the rest a. Bits of the quotient are found from the highest one on. Widths are 1
    to 8.
    """
    check_size(width, 1, 8)
    # What is left may take one bit more than b while b is not yet taken away.
    more = width + 1
    lines = [f"in a {width}", f"in b {width}", f"out quotient {width}", f"out rest {width}"]
    lines.append(f"let other = wide(b, {more})")
    lines.append(f"let left{width} = 0:{more}")
    for bit in range(width - 1, -1, -1):
        lines.append(f"let now{bit} = " + join_of([f"left{bit + 1}[{width - 1}:0]", f"a[{bit}]"]))
        lines.append(f"let fits{bit} = ~(now{bit} < other)")
        lines.append(f"let left{bit} = if fits{bit} then now{bit} - other else now{bit}")
    lines.append(f"quotient = {join_down('fits', width)}")
    lines.append(f"rest = left0[{width - 1}:0]")
    return plan_of("quotient", lines)


def join_of(rows):
    """Return an expression for some others side by side, the first one the highest."""
    return "{" + ", ".join(rows) + "}"


def join_down(name, many):
    """Return an expression for what has a name and a number, the one with the highest number first."""
    return join_of([f"{name}{at}" for at in range(many - 1, -1, -1)])


def turned_text(width):
    """Return the plan "turned": a, and by how many places (many), come in; a's bits turned to the left go out.

    The width is 2, 4, 8 or 16; many has as many bits as it takes to tell all places.
    """
    if width not in (2, 4, 8, 16):
        raise PlanError(f"bits of {width} are not turned")
    bits = (width - 1).bit_length()
    lines = [f"in a {width}", f"in many {bits}", f"out turned {width}"]
    name = "a"
    for bit in range(bits):
        places = 1 << bit
        lines.append(f"let by{bit} = if many[{bit}] then {name} << {places} | {name} >> {width - places} else {name}")
        name = f"by{bit}"
    lines.append(f"turned = {name}")
    return plan_of("turned", lines)


def ones_text(width):
    """Return the plan "ones": a comes in, and how many of its bits are 1 goes out as ones, in six bits.

    Widths are 1 to 32.
    """
    check_size(width, 1, 32)
    lines = [f"in a {width}", f"out ones {BITS_OF_ONES}"]
    rows = [f"wide(a[{bit}], {BITS_OF_ONES})" for bit in range(width)]
    turn = 0
    # Two by two, so that no way through the sums is long.
    while len(rows) > 1:
        sums = [f"sum{turn}x{at}" for at in range(len(rows) // 2)]
        for at, name in enumerate(sums):
            lines.append(f"let {name} = {rows[2 * at]} + {rows[2 * at + 1]}")
        rows = sums + rows[2 * len(sums):]
        turn += 1
    lines.append(f"ones = {rows[0]}")
    return plan_of("ones", lines)


def first_text(width):
    """Return the plan "first": a comes in; found goes out, 1 if some bit is 1, and place, the lowest one's, 0 for none.

    place has five bits. Widths are 1 to 32.
    """
    check_size(width, 1, 32)
    lines = [f"in a {width}", "out found 1", f"out place {BITS_OF_PLACE}"]
    behind = f"0:{BITS_OF_PLACE}"
    for bit in range(width - 1, -1, -1):
        lines.append(f"let from{bit} = if a[{bit}] then {bit}:{BITS_OF_PLACE} else {behind}")
        behind = f"from{bit}"
    lines.extend(["found = any(a)", f"place = {behind}"])
    return plan_of("first", lines)


def sorted_text(many, width):
    """Return the plan "sorted": x0, x1, .. come in, y0, y1, .. go out, the same numbers ascending.

    There are 2 to 6 of 1 to 8 bits. Neighbours change places where the first is greater, in as many rounds as there
    are numbers.
    """
    check_size(many, 2, 6)
    check_size(width, 1, 8)
    lines = [f"in x{at} {width}" for at in range(many)]
    lines.extend([f"out y{at} {width}" for at in range(many)])
    names = [f"x{at}" for at in range(many)]
    for turn in range(many):
        for at in range(turn & 1, many - 1, 2):
            one, other = names[at], names[at + 1]
            test, low, high = f"turn{turn}x{at}", f"low{turn}x{at}", f"high{turn}x{at}"
            lines.append(f"let {test} = {other} < {one}")
            lines.append(f"let {low} = if {test} then {other} else {one}")
            lines.append(f"let {high} = if {test} then {one} else {other}")
            names[at] = low
            names[at + 1] = high
    lines.extend([f"y{at} = {names[at]}" for at in range(many)])
    return plan_of("sorted", lines)


def gray_text(width):
    """Return the plan "gray": go comes in; code goes out, a count in which one bit changes at a time.

    Widths are 1 to 16.
    """
    check_size(width, 1, 16)
    return plan_of("gray", ["in go 1", f"out code {width}", f"keep count {width} = 0",
                            f"count <- if go then count + 1:{width} else count", "code = count ^ count >> 1"])
