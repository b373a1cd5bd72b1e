"""Mixing: numbers that look drawn, each made of the one before, the same ones for each seed."""

MIXED = 1 << 64
TIMES = 6364136223846793005
MORE = 1442695040888963407


def seeded(seed):
    """Return the number that a seed begins with."""
    number = int(seed) % MIXED
    # The first numbers of seeds that are near each other would be near each other, too.
    for _ in range(4):
        number = mixed_on(number)
    return number


def mixed_on(number):
    """Return the number that comes behind one."""
    return (number * TIMES + MORE) % MIXED


def below(number, many):
    """Return a number from 0 to below another one, by the upper bits of a number, which are mixed best."""
    return (number >> 32) % many
