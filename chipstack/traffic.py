"""Traffic: plans of circuits through which others pass numbers on: queues, turns, lines of single bits."""

from chipstack.guarding import odd_of
from chipstack.units import check_size, join_of, plan_of

# What is sent beside the bits of a number: a 0 ahead, whether the number of ones is odd, a 1 at the end.
BITS_AROUND = 3


def queue_text(places, width):
    """Return the plan "queue" of so many places (1 to 8) for numbers of a width (1 to 16).

    put and number come in, and get; first goes out (0 if there is none), some (there is one) and full. What is put
    while it is full is lost, unless one is got in the same beat; getting from an empty one does nothing.
    """
    check_size(places, 1, 8)
    check_size(width, 1, 16)
    lines = ["in put 1", f"in number {width}", "in get 1", f"out first {width}", "out some 1", "out full 1"]
    lines.append("keep many 4 = 0")
    lines.extend([f"keep spot{at} {width} = 0" for at in range(places)])
    # What is got goes before what is put comes.
    lines.append("let gone = get & any(many)")
    lines.append("let left = if gone then many - 1:4 else many")
    lines.append(f"let comes = put & left < {places}:4")
    lines.append("many <- if comes then left + 1:4 else left")
    for at in range(places):
        # Zeros move up behind the last number, so that the first place is 0 if there is none.
        behind = f"spot{at + 1}" if at + 1 < places else f"0:{width}"
        lines.append(f"spot{at} <- if comes & left == {at}:4 then number else if gone then {behind} else spot{at}")
    lines.extend(["first = spot0", "some = any(many)", f"full = many == {places}:4"])
    return plan_of("queue", lines)


def turns_text(many):
    """Return the plan "turns" for so many (2 to 8) who ask: ask comes in, a bit for each, and give goes out.

    At most one is given. The first one who asks behind the one that was given last has it; who goes on asking has it
    at least once in so many beats.
    """
    check_size(many, 2, 8)
    # behind has a 1 for each place behind the one that was given last: none at first, as if the last one of all had it.
    return plan_of("turns", [f"in ask {many}", f"out give {many}", f"keep behind {many} = 0",
                             "let later = ask & behind", "let first = if any(later) then later else ask",
                             f"let one = first & (0:{many} - first)",
                             f"behind <- if any(one) then ~(one | one - 1:{many}) else behind", "give = one"])


def sender_text(width, beats):
    """Return the plan "sender": number and go come in, line and busy go out; a number goes as bits, so many beats each.

    The line is 1 at rest; then 0, the bits from the lowest on, whether their number is odd, and 1. go counts at rest
    alone. Widths are 1 to 8, beats 1 to 8.
    """
    check_size(width, 1, 8)
    check_size(beats, 1, 8)
    many = width + BITS_AROUND
    lines = [f"in number {width}", "in go 1", "out line 1", "out busy 1", f"keep bits {many} = 0", "keep left 4 = 0",
             "keep beat 3 = 0", "let sends = any(left)", "let starts = go & ~sends"]
    lines.append(f"let last = beat == {beats - 1}:3")
    lines.append(f"let odd = {odd_of('number', list(range(width)))}")
    lines.append("let whole = " + join_of(["1:1", "odd", "number", "0:1"]))
    lines.append("bits <- if starts then whole else if last then bits >> 1 else bits")
    lines.append(f"left <- if starts then {many}:4 else if sends & last then left - 1:4 else left")
    lines.append("beat <- if sends & ~last then beat + 1:3 else 0:3")
    lines.extend(["line = ~sends | bits[0]", "busy = sends"])
    return plan_of("sender", lines)


def receiver_text(width, beats):
    """Return the plan "receiver" of what a sender of the same sizes sends: line comes in; number, ready, bad go out.

    It looks at the middle of each bit; ready is 1 for one beat when a number is there, bad tells that the number of
    its bits, or its end, does not fit. A 0 that is over before its middle begins nothing.
    """
    check_size(width, 1, 8)
    check_size(beats, 1, 8)
    many = width + BITS_AROUND
    lines = ["in line 1", f"out number {width}", "out ready 1", "out bad 1", f"keep heard {width + 2} = 0",
             "keep left 4 = 0", "keep beat 3 = 0", "keep told 1 = 0"]
    # A 0 at rest is the first beat of the bit ahead of a number.
    lines.append("let hears = any(left) | ~line")
    lines.append(f"let here = if any(left) then left else {many}:4")
    lines.append(f"let middle = hears & beat == {(beats - 1) // 2}:3")
    lines.append(f"let nothing = ~hears | middle & here == {many}:4 & line")
    lines.append(f"let last = beat == {beats - 1}:3")
    lines.append("let more = " + join_of(["line", f"heard[{width + 1}:1]"]))
    lines.append("heard <- if middle then more else heard")
    lines.append("left <- if nothing then 0:4 else if last then here - 1:4 else here")
    lines.append("beat <- if nothing | last then 0:3 else beat + 1:3")
    lines.append("told <- middle & here == 1:4")
    lines.append(f"number = if told then heard[{width - 1}:0] else 0:{width}")
    lines.append("ready = told")
    lines.append(f"bad = told & (~heard[{width + 1}] | ({odd_of('heard', list(range(width + 1)))}))")
    return plan_of("receiver", lines)
