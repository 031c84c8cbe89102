"""Words, and what the deeds make of them."""

MOST_WORD = 999

DEEDS = ("plus", "minus", "times", "least", "most", "less", "over")


def is_whole(thing, low, high):
    """Whether a thing of any kind is a whole number from low to high."""
    # True and False are ints to Python, but no whole numbers here.
    if isinstance(thing, bool) or not isinstance(thing, int):
        return False
    return low <= thing <= high


def plus(a, b):
    return (a + b) % (MOST_WORD + 1)


def minus(a, b):
    return (a - b) % (MOST_WORD + 1)


def times(a, b):
    return (a * b) % (MOST_WORD + 1)


def least(a, b):
    return min(a, b)


def most(a, b):
    return max(a, b)


def less(a, b):
    return 1 if a < b else 0


def over(a, b):
    return None if b == 0 else a // b


def pick(c, a, b):
    return a if c != 0 else b


MADE = {
    "plus": plus,
    "minus": minus,
    "times": times,
    "least": least,
    "most": most,
    "less": less,
    "over": over,
}


def done(deed, words):
    """What a deed of DEEDS, or pick, makes of a list of words; None of over by 0."""
    if deed == "pick":
        return pick(words[0], words[1], words[2])
    made = MADE[deed]
    return made(words[0], words[1])
