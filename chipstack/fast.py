"""Fast: a plan of the machine that fetches an instruction while it carries out the one before."""

from chipstack.core import first_of, give_lines, head_lines, is_word, let_lines, reckoned_lines
from chipstack.units import plan_of


def fast_text(size):
    """Return the text of the plan "fast", with the core's names for what comes in and goes out, of a machine of a size.

    What was fetched is carried out in the next beat; "from" and "to" take two beats, in the first of which nothing is
    fetched. Behind a jump that is taken what was fetched is left out. It begins with nothing fetched.
    """
    lines = [*head_lines(size), f"keep fetched {size.width()} = 0", "keep some 1 = 0"]
    lines.extend(let_lines(size, "fetched"))
    # Nothing fetched is told as a halt that does not count: all other words change something.
    lines.append("let halts = some & " + is_word("halt"))
    place = first_of([("first | halts", "place"), ("jumps", "target")], f"place + 1:{size.code}")
    fetched = first_of([("first | halts", "fetched"), ("jumps", f"0:{size.width()}")], "code")
    lines.extend([f"place <- {place}", f"fetched <- {fetched}", "some <- ~jumps"])
    lines.extend(reckoned_lines(size))
    lines.extend(give_lines("halts"))
    return plan_of("fast", lines)
