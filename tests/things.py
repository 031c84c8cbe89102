"""Things that several tests hand in."""


class Odd:
    """A thing that can't be compared, hashed, counted or shown."""

    __hash__ = None

    def refuse(self, *args):
        raise RuntimeError

    __eq__ = __ne__ = __lt__ = __le__ = __gt__ = __ge__ = refuse
    __len__ = __iter__ = __getitem__ = __bool__ = __int__ = __index__ = __repr__ = refuse


ODD = [
    None, True, False, "", "0", "ab", b"", b"\x00", [], [0], (), (0,), ((0,),), {}, {0: 0}, set(), {0},
    frozenset(), range(2), object(), int, len, Odd(), 10 ** 40, -(10 ** 40),
]
