"""Guarding: plans of circuits that find bits that were turned, and put them right."""

from chipstack.errors import PlanError
from chipstack.units import check_size, join_down, join_of, plan_of

# How many checks guard so many bits of data.
CHECKS = {4: 3, 8: 4, 11: 4}


def spots_of(width):
    """Return (places of the data's bits, places of the checks) in a word, from 1 on; for 4, 8 or 11 bits of data."""
    if width not in CHECKS:
        raise PlanError(f"{width} bits of data are not guarded")
    checks = [1 << at for at in range(CHECKS[width])]
    data = [place for place in range(1, width + len(checks) + 1) if place not in checks]
    return (data, checks)


def odd_of(name, bits):
    """Return an expression for whether an odd number of some bits of a name are 1."""
    rows = [f"{name}[{bit}]" for bit in bits]
    # Of no bits none are 1.
    return " ^ ".join(rows) if rows else "0:1"


def guard_text(width):
    """Return the plan "guard": data comes in, word goes out: data and checks at their places, a last bit over all.

    A check at a place is 1 if an odd number of data bits are, whose places have its bit; the last bit makes the
    number of all ones even. Place p is bit p - 1.
    """
    data, checks = spots_of(width)
    many = width + len(checks)
    lines = [f"in data {width}", f"out word {many + 1}"]
    for place in range(1, many + 1):
        if place in checks:
            read = [bit for bit, spot in enumerate(data) if spot & place]
            lines.append(f"let bit{place - 1} = {odd_of('data', read)}")
        else:
            lines.append(f"let bit{place - 1} = data[{data.index(place)}]")
    lines.append(f"let most = {join_down('bit', many)}")
    lines.append(f"let last = {odd_of('most', list(range(many)))}")
    lines.append("word = " + join_of(["last", "most"]))
    return plan_of("guard", lines)


def mend_text(width):
    """Return the plan "mend": word comes in; data goes out, with one turned bit put right, and turned, and lost.

    turned is 1 if one bit was turned, lost if two were (data is then as it came).
    """
    data, checks = spots_of(width)
    many = width + len(checks)
    lines = [f"in word {many + 1}", f"out data {width}", "out turned 1", "out lost 1"]
    for at, check in enumerate(checks):
        read = [place - 1 for place in range(1, many + 1) if place & check]
        lines.append(f"let check{at} = {odd_of('word', read)}")
    # The checks that do not fit tell the place of the one bit that was turned, 0 if that is the last one.
    lines.append(f"let place = {join_down('check', len(checks))}")
    lines.append(f"let odd = {odd_of('word', list(range(many + 1)))}")
    for bit, place in enumerate(data):
        lines.append(f"let bit{bit} = word[{place - 1}] ^ (odd & place == {place}:{len(checks)})")
    lines.extend([f"data = {join_down('bit', width)}", "turned = odd", "lost = ~odd & any(place)"])
    return plan_of("mend", lines)


def rest_text(width, pattern):
    """Return the plan "rest": bit and go come in, rest goes out: of all bits so far, the highest first, by a pattern.

    The pattern (0 to 2 to the width less 1) is what the bit above the width stands for; while go is 0 the rest is set
    back to 0. Widths are 1 to 16.
    """
    check_size(width, 1, 16)
    check_size(pattern, 0, (1 << width) - 1)
    twice = join_of([f"now[{width - 2}:0]", "bit"]) if width > 1 else "bit"
    return plan_of("rest", ["in bit 1", "in go 1", f"out rest {width}", f"keep now {width} = 0", f"let twice = {twice}",
                            f"let more = if now[{width - 1}] then twice ^ {pattern}:{width} else twice",
                            f"now <- if go then more else 0:{width}", "rest = now"])
