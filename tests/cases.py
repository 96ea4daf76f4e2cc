"""Cells, as texts and as tuples, that several tests go through."""

WORDS = ("and", "or", "odd", "most", "not", "one", "nil", "in", "out")

EVERY_WORD = "\n".join([
    "in a b c",
    "atwo and a b",
    "athree and a b c",
    "otwo or a b",
    "othree or a b c",
    "xtwo odd a b",
    "xthree odd a b c",
    "m most a b c",
    "n not a",
    "high one",
    "low nil",
    "out atwo athree otwo othree xtwo xthree",
])

ADDER = "in x y c\ns odd x y c\nm most x y c\nout s m"


def greatest():
    """A cell as great as cells may be: 6 inputs, 24 gates, 6 outputs, all names of eight letters."""
    names = ["abcdefg" + sign for sign in "abcdefghijklmnopqrstuvwxyz"]
    rows = ["in " + " ".join(names[:6])]
    # Each gate of the first twenty is the most of the three names ahead of it.
    rows += [names[at] + " most " + " ".join(names[at - 3:at]) for at in range(6, 26)]
    rows += ["bcdefgh" + sign + " odd " + " ".join(names[-3:]) for sign in "abcd"]
    rows += ["out " + " ".join([names[0], names[1], names[25], "bcdefgha", "bcdefghb", "bcdefghc"])]
    return "\n".join(rows)


GREATEST = greatest()

# (text, cell): each text is read as its cell, each cell is shown as its text.
CELLS = (
    ("in\nout", ((), (), ())),
    ("in a\nout", (("a",), (), ())),
    ("in a\nout a", (("a",), (), ("a",))),
    ("in a b\nout b a", (("a", "b"), (), ("b", "a"))),
    ("in\nx one\nout", ((), (("x", "one", ()),), ())),
    ("in\nx one\ny nil\nout y x", ((), (("x", "one", ()), ("y", "nil", ())), ("y", "x"))),
    ("in a\nx not a\nout x", (("a",), (("x", "not", ("a",)),), ("x",))),
    ("in a\nx not a\ny not x\nout a y x",
     (("a",), (("x", "not", ("a",)), ("y", "not", ("x",))), ("a", "y", "x"))),
    (ADDER,
     (("x", "y", "c"), (("s", "odd", ("x", "y", "c")), ("m", "most", ("x", "y", "c"))), ("s", "m"))),
    # A gate's names may be alike.
    ("in a b\nx and a a\ny or b b b\nz most a b a\nu odd z z\nout x y z u",
     (("a", "b"),
      (("x", "and", ("a", "a")), ("y", "or", ("b", "b", "b")), ("z", "most", ("a", "b", "a")),
       ("u", "odd", ("z", "z"))),
      ("x", "y", "z", "u"))),
    # Names of one letter and of eight, a and z among the letters.
    ("in a abcdefgh\nz or a abcdefgh\nzyxwvuts and z a\nout zyxwvuts z",
     (("a", "abcdefgh"), (("z", "or", ("a", "abcdefgh")), ("zyxwvuts", "and", ("z", "a"))), ("zyxwvuts", "z"))),
    # Names that are a word with a letter more, or less.
    ("in ina outa anda ora odda\nmosta not ina\nnota not outa\nonea one\nnila nil\nout mosta nota onea nila",
     (("ina", "outa", "anda", "ora", "odda"),
      (("mosta", "not", ("ina",)), ("nota", "not", ("outa",)), ("onea", "one", ()), ("nila", "nil", ())),
      ("mosta", "nota", "onea", "nila"))),
    ("in i ou an o od\nmos not i\nno not ou\non one\nni nil\nout mos no on ni",
     (("i", "ou", "an", "o", "od"),
      (("mos", "not", ("i",)), ("no", "not", ("ou",)), ("on", "one", ()), ("ni", "nil", ())),
      ("mos", "no", "on", "ni"))),
    (EVERY_WORD,
     (("a", "b", "c"),
      (("atwo", "and", ("a", "b")), ("athree", "and", ("a", "b", "c")),
       ("otwo", "or", ("a", "b")), ("othree", "or", ("a", "b", "c")),
       ("xtwo", "odd", ("a", "b")), ("xthree", "odd", ("a", "b", "c")),
       ("m", "most", ("a", "b", "c")), ("n", "not", ("a",)), ("high", "one", ()), ("low", "nil", ())),
      ("atwo", "athree", "otwo", "othree", "xtwo", "xthree"))),
)


def cell_of(text):
    """A cell from its rows, parted by `;`, without the program's reading."""
    rows = [row.strip().split(" ") for row in text.split(";")]
    gates = tuple((words[0], words[1], tuple(words[2:])) for words in rows[1:-1])
    return (tuple(rows[0][1:]), gates, tuple(rows[-1][1:]))


def row_of(text, along):
    return (cell_of(text), tuple(tuple(pair.split(">")) for pair in along.split()))


# Rows by what they do. In along, `m>c`: the bit of m is carried to c.
ROWS = {
    "adder": row_of("in x y c; s odd x y c; m most x y c; out s m", "m>c"),
    "less": row_of("in x y c; s odd x y c; n not x; m most n y c; out s m", "m>c"),
    "count": row_of("in c x; s odd x c; m and x c; out m s", "m>c"),
    # Three words go in, two bits are carried: x + y + z and what comes from below.
    "three": row_of("in x y z a b; t odd x y z; h most x y z; s odd t a b; k most t a b; m or h h; out k s m",
                    "k>b m>a"),
    "double": row_of("in x c; s or c c; m and x x; out s m", "m>c"),
    "triple": row_of("in x c d; s odd x c; h and x c; m odd x d h; j most x d h; out s m j", "m>c j>d"),
    # Right as long as c and d are not both 1, which never comes from edges 0.
    "triple from nought": row_of("in x c d; q and c d; s odd x c q; h and x c; m odd x d h; j most x d h; out s m j",
                                 "j>d m>c"),
    "nothing": row_of("in x y; p and x y; q odd x y; n not y; h one; l nil; out q n p h l", ""),
    "everything": row_of("in a b; u not a; v odd a b; out u v", "u>a v>b"),
    "crossed": row_of("in a b; u not a; v odd a b; out u v", "u>b v>a"),
    "no words in": row_of("in c; s or c c; m not c; out m s", "m>c"),
    "no words out": row_of("in x c; m odd x c; out m", "m>c"),
    "no outputs": row_of("in x y; out", ""),
    "no inputs": row_of("in; h one; l nil; out h l", ""),
    "empty": row_of("in; out", ""),
    "shift": row_of("in x d c b a; s or d d; u or c c; v or b b; w or a a; z or x x; out z w s v u",
                    "z>a w>b v>c u>d"),
    "parity": row_of("in x y z c; s odd x y z; m odd s c; out m s", "m>c"),
}

# (row, weights): claims that hold at every width, whatever the edges.
HOLDING = (
    ("adder", {"x": 1, "y": 1, "c": 1, "s": -1}),
    ("adder", {"x": 999999999, "y": 999999999, "c": 999999999, "s": -999999999}),
    ("less", {"x": 1, "y": -1, "c": -1, "s": -1}),
    ("count", {"x": -3, "c": -3, "s": 3}),
    ("three", {"x": 1, "y": 1, "z": 1, "a": 1, "b": 1, "s": -1}),
    ("double", {"x": 2, "c": 1, "s": -1}),
    ("triple", {"x": 3, "c": 1, "d": 2, "s": -1}),
    ("nothing", {"x": 1, "y": 1, "q": -1, "p": -2}),
    ("nothing", {"": 1, "y": -1, "n": -1}),
    ("nothing", {"": -5, "h": 5, "l": 17}),
    ("no words in", {"": 2, "s": -3, "c": 1}),
    ("no inputs", {"": 1, "h": -1, "l": 4}),
    ("shift", {"x": 16, "a": 8, "b": 4, "c": 2, "d": 1, "s": -1}),
)


def counter(bits, words, tell="full"):
    """A row that counts its places in so many carried bits, where all its words have 1; s tells that all are 1."""
    states, ins = list("abcd")[:bits], list("xyz")[:words]
    rows = ["in " + " ".join(ins + states), "go one"]
    go = "go"
    for name in ins:
        rows.append(f"go{name} and {go} {name}")
        go = "go" + name
    step, full = go, "go"
    for name in states:
        rows += [f"n{name} odd {name} {step}", f"k{name} and {name} {step}", f"f{name} and {name} {full}"]
        step, full = "k" + name, "f" + name
    rows.append(f"s and {full} {full if tell == 'full' else go}")
    rows.append("out s " + " ".join(["n" + name for name in states]))
    return row_of(";".join(rows), " ".join([f"n{name}>{name}" for name in states]))


WAYS = ((1, 0), (0, 1), (1, 1), (1, -1))

# Of each place the product of both bits; sums go to the place of the same worth, carries to one worth twice as much.
PRODUCT = cell_of("in a b s c; p and a b; t odd p s c; m most p s c; out t m")
MULTIPLIER = (PRODUCT, (("t", "s", 1, -1), ("m", "c", 0, 1)), ("a",), ("b",))
MULTIPLIER_DOWN = (PRODUCT, (("m", "c", 1, 0), ("t", "s", 1, -1)), ("a",), ("b",))


def carrier(way):
    """What a row's and a column's bit and the bit that is carried are odd of, carried on one way."""
    return (cell_of("in r k c; o odd r k c; e and r c; n not c; out e o n"), (("o", "c") + way,), ("r",), ("k",))
