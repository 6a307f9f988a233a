"""Sheets and wrong things that several tests hand in."""

ONE = ((7,),)
ROW = ((1, 2, 3, 4, 5),)
COLUMN = ((1,), (2,), (3,), (4,), (5,))
SQUARE = ((1, 2), (3, 4))
NINE = ((1, 2, 3), (4, 5, 6), (7, 8, 9))
TWELVE = ((1, 2, 3, 4), (5, 6, 7, 8), (9, 10, 11, 12))
ENDS = ((1, 9999),)
RING = ((1, 1, 1), (1, None, 1), (1, 1, 1))
APART = ((5, None, 6), (None, None, 7), (8, None, None))
# Five by five, twelve stamps, none near another.
SPREAD = (
    (None, 1, None, 2, None),
    (3, None, 4, None, 5),
    (None, 6, None, 7, None),
    (8, None, 9, None, 10),
    (None, 11, None, 12, None),
)

SHEETS = [ONE, ROW, COLUMN, SQUARE, NINE, TWELVE, ENDS, RING, APART, SPREAD]


class EqualToAll:
    """Equal to whatever it is compared with, and not to be hashed, measured or written."""

    __hash__ = None

    def __eq__(self, other):
        return True

    def __len__(self):
        raise RuntimeError("not to be measured")

    def __repr__(self):
        raise RuntimeError("not to be written")


# Python refuses to write a number of so many digits as a text.
HUGE = 10 ** 5000

OF_ANY_KIND = [
    None, True, False, -1, 1.0, 0.5, float("nan"), 1j, HUGE, -HUGE, "", "1", "sheet", b"1",
    [], {}, set(), (), [1], {1: 1}, (1,), (None,), ((),), ([],), ([1],), ("1",), (EqualToAll(),),
    object(), EqualToAll(), len, int, range(2), iter([1]), ValueError("1"),
]

NO_SHEETS = OF_ANY_KIND + [
    [(1, 2), (3, 4)],
    ([1, 2], [3, 4]),
    ((1, 2), [3, 4]),
    ((1,),) * 6,
    ((1, 2), (3,)),
    ((1,), (2, 3)),
    ((1, 2), ()),
    ((), ()),
    ((1, 2, 3, 4, 5, 6),),
    ((1, None, None, None, None, None),),
    ((1,), (None,), (None,), (None,), (None,), (None,)),
    ((0,),), ((-1,),), ((10000,),), ((HUGE,),),
    ((True,),), ((False,),), ((1, True),), ((1.0,),), (("1",),), ((".",),),
    ((1, "2"),), ((1, []),), (((1,),),), ((EqualToAll(),),), ((1, EqualToAll()),),
    ((None,),), ((None, None), (None, None)),
    ("1", "2"), ("12",), {(0, 0): 1}, 1, 12,
    ((1, 1, 1, 1, 1), (1, 1, 1, 1, 1), (1, 1, 1, None, None)),
    SPREAD[:4] + ((13, 11, None, 12, None),),
    ((1,) * 5,) * 5,
]

# For APART: a hole at (0, 1), three rows, three columns.
NO_CELLS_OF_APART = OF_ANY_KIND + [
    (0, 1), (1, 1), (2, 2),
    (3, 0), (0, 3), (3, 3), (HUGE, 0), (0, HUGE),
    (-1, 0), (0, -1), (-1, -1), (-3, 0), (0, -3),
    (True, 2), (False, 0), (0, False), (False, False), (2, False),
    [0, 0], (0,), (0, 0, 0), ((0, 0),), (0, (0,)),
    ("0", "0"), "00", (0, "0"), (0.0, 0), (0, 0.0), (0, None), (None, 0), (None, None), (0, [0]),
    (EqualToAll(), EqualToAll()), (0, EqualToAll()), 0, 1,
]

NO_NUMBERS = OF_ANY_KIND + [0, 13, 14, -12, "12", "3", (3,), [3], 3.0, 12.0]

NO_PIECES_OF_SQUARE = OF_ANY_KIND + [
    ((0, 1), (0, 0)),
    ((1, 0), (0, 0)),
    ((0, 0), (1, 0), (0, 1)),
    ((0, 0), (0, 0)),
    ((0, 0), (0, 1), (0, 1)),
    ((0, 0), (0, 0), (0, 1)),
    ((0, 1), (0, 2)),
    ((1, 0), (2, 0)),
    ((2, 0),),
    ((-1, 0), (0, 0)),
    ((0, -1), (0, 0)),
    ((0, 0), (0, HUGE)),
    ((0, 0), (1, 1)),
    ((0, 1), (1, 0)),
    [(0, 0), (0, 1)],
    [(0, 0)],
    (0, 0),
    (0, 1),
    ((0, 0, 0),),
    ((0, 0), (0, 1, 0)),
    ((0,),),
    ([0, 0],),
    ((0, 0), [0, 1]),
    ((0, True),),
    ((False, 0),),
    ((0, 0), (0, True)),
    ((0, 0), (True, 0)),
    ((0, 0.0),),
    ((0, 0), (0, 1.0)),
    ("00",),
    ("00", "01"),
    (("0", "0"),),
    ((0, 0), "01"),
    ((0, 0), None),
    ((0, 0), (0, None)),
    ((0, 0), (0, [1])),
    ((0, 0), EqualToAll()),
    ((0, 0), (0, EqualToAll())),
    {(0, 0): True},
    {(0, 0)},
    (((0, 0),),),
    ((0, 0),) * 1000,
]

# A huge number is a whole number from 1 on like any other.
NOT_FROM_1_ON = [thing for thing in OF_ANY_KIND if thing is not HUGE] + [0, -2, -9999, "12", 3.0, (3,), [3]]

NO_WORTHS = OF_ANY_KIND + [0, 10000, 10001, -9999, "5", "9999", 5.0, 9999.0, (5,), [5]]

# Of numbers that SQUARE has as a plan's worths, as far as they are numbers: it is the form that is refused.
NO_WANTS = [thing for thing in OF_ANY_KIND if not isinstance(thing, list)] + [
    [], (10,), (3, 7), (1, 2, 3, 4), {3: 7}, {3, 7}, "37", range(1, 5), 10, 0,
    [1] * 13, [10] * 13, [1] * 100,
    [0], [0, 10], [10, 0], [-1], [-1, 11], [11, -1], [-HUGE],
    [True], [True, 9], [9, True], [False, 10], [10, False],
    ["10"], ["3", 7], [3, "7"], [10, ""], [None], [10, None], [10.0], [3, 7.0], [float("nan")],
    [[10]], [[3, 7]], [(3, 7)], [3, [7]], [EqualToAll()], [10, EqualToAll()], [object()],
]

NO_PARTS_OF_SQUARE = [thing for thing in OF_ANY_KIND if not isinstance(thing, list)] + [
    [piece] for piece in NO_PIECES_OF_SQUARE
] + [
    [((0, 0), (0, 1)), ((1, 0), (1, 1)), piece] for piece in NO_PIECES_OF_SQUARE
] + [
    [],
    (((0, 0), (0, 1), (1, 0), (1, 1)),),
    (((0, 0), (0, 1)), ((1, 0), (1, 1))),
    ((0, 0), (0, 1), (1, 0), (1, 1)),
    [(0, 0), (0, 1), (1, 0), (1, 1)],
    [((0, 0),)],
    [((0, 0), (0, 1)), ((1, 0),)],
    [((0, 0),), ((0, 1),), ((1, 0),)],
    [((0, 0), (0, 1), (1, 0))],
    [((0, 0), (0, 1)), ((0, 1),), ((1, 0), (1, 1))],
    [((0, 0), (0, 1)), ((0, 0), (0, 1)), ((1, 0), (1, 1))],
    [((0, 0), (0, 1)), ((0, 1), (1, 1)), ((1, 0),)],
    [((0, 0), (0, 1)), ((0, 0), (0, 1))],
    [((0, 0), (1, 1)), ((0, 1), (1, 0))],
    [((0, 1), (0, 0)), ((1, 0), (1, 1))],
    [((0, 0), (0, 1)), ((1, 0), (1, 1)), ()],
    [((0, 0), (0, 1)), ((1, 0), (1, 1)), None],
    [((0, 0), (0, 1)), ((1, 0), (1, 1)), ((2, 0),)],
    [[(0, 0), (0, 1)], [(1, 0), (1, 1)]],
    {((0, 0), (0, 1)): 3, ((1, 0), (1, 1)): 7},
]

NO_STRIP_NUMBERS = NO_NUMBERS + [5, 6, 7, 10, 12, -2, -4, "4", (4,), [4], 4.0]

NO_TEXTS = OF_ANY_KIND + [
    # No text at all.
    1, 12, b"1\n", bytearray(b"1\n"), ["1\n"], ("1\n",), {"1\n": 1}, ["1", "2"], ((1,),), [(1, 2), (3, 4)], SQUARE,
    # Line ends.
    "", "\n", "\n\n", "1", "1 2", "1 2\n3 4", "1\n\n", "1 2\n3 4\n\n", "\n1\n", "1\n\n2\n", "1\n\n\n2\n",
    "1\r\n", "1\r", "1\r\n2\r\n", "1\n\r", "1\r2\n", "1\x0b", "1\x0c", "1\x0c\n", "1\x0b2\n", "1\x1c2\n", "1\x85",
    "1\x852\n", "1\u2028", "1\u20282\n", "1\u2029", "1\\n", "1\n\x00", "1\x00\n", "\x001\n", "\ufeff1\n",
    # Blanks.
    " ", " \n", " 1\n", "1 \n", "1\n ", "1\n \n", "1  2\n", "1   2\n", " 1 2\n", "1 2 \n", "1 2\n 3 4\n", "1 2\n3 4 \n",
    "1\t2\n", "\t1\n", "1\t\n", "1\u00a02\n", "1\u20032\n", "1\u30002\n", "1\u00a0\n", "1\u200b2\n", "1\x1f2\n",
    "1 \t2\n", "1, 2\n", "1,2\n", "1|2\n",
    # Worths.
    "0\n", "00\n", "01\n", "1 02\n", "0001\n", "00001\n", "+1\n", "-1\n", "1 -2\n", "-0\n", "--1\n",
    "1_0\n", "_1\n", "1_\n",
    "10000\n", "1 10000\n", "99999\n", "10001 1\n", "1.0\n", "1.\n", ".1\n", "1e3\n", "0x1\n", "0b1\n",
    "1/2\n", "1+1\n", "(1)\n",
    "9" * 5000 + "\n", "0" * 5000 + "1\n", "1 " + "9" * 5000 + "\n",
    "\u0661\n", "1\u0662\n", "\u0967\n", "\uff11\n", "\U0001d7cf\n", "\u00b9\n", "1\u00b2\n", "\u2460\n", "\u00bd\n",
    "\u4e00\n", "\u2167\n", "\ud800\n",
    "a\n", "1 a\n", "1a\n", "I\n", "l\n", "O\n", "one\n", "None\n", "1 None\n", "True\n", "None 1\n", "nan\n", "inf\n",
    # Holes.
    ".\n", ". .\n", ".\n.\n", ". .\n. .\n", ". . . . .\n" * 5,
    "..\n", "1 ..\n", "1 ,\n", "1 -\n", "1 \u00b7\n", "1 \u3002\n", "1 *\n",
    # Sizes.
    "1 2\n3\n", "1\n2 3\n", "1 2\n3 4 5\n", "1 2 3\n4 5\n", ". 1\n.\n", "1\n. .\n",
    "1\n" * 6, "1\n" + ".\n" * 5, "1 2 3 4 5 6\n", "1 . . . . .\n", "1 1 1 1 1 .\n",
    "1 1 1 1 1\n1 1 1 1 1\n1 1 1 . .\n", "1 1 1 1 1\n" * 5, "1 2 3 4\n" * 3 + ". . . 1\n", "1\n" * 100000,
    "((1, 2), (3, 4))\n", "((1,),)", "[[1]]\n", "sheet\n",
]
