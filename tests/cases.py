"""Cells, as texts and as tuples, that several tests go through."""

WORDS = ("and", "or", "odd", "most", "not", "one", "nil", "in", "out")

EVERY_WORD = "\n".join([
    "in a b c",
    "atwo and a b",
    "athree and a b c",
    "otwo or a b",
    "othree or a b c",
    "xtwo odd a b",
    "xthree odd a b c",
    "m most a b c",
    "n not a",
    "high one",
    "low nil",
    "out atwo athree otwo othree xtwo xthree",
])

ADDER = "in x y c\ns odd x y c\nm most x y c\nout s m"



def greatest():
    """A cell as great as cells may be: 6 inputs, 24 gates, 6 outputs, all names of eight letters."""
    names = ["abcdefg" + sign for sign in "abcdefghijklmnopqrstuvwxyz"]
    rows = ["in " + " ".join(names[:6])]
    # Each gate of the first twenty is the most of the three names ahead of it.
    rows += [names[at] + " most " + " ".join(names[at - 3:at]) for at in range(6, 26)]
    rows += ["bcdefgh" + sign + " odd " + " ".join(names[-3:]) for sign in "abcd"]
    rows += ["out " + " ".join([names[0], names[1], names[25], "bcdefgha", "bcdefghb", "bcdefghc"])]
    return "\n".join(rows)


GREATEST = greatest()

# (text, cell): each text is read as its cell, each cell is shown as its text.
CELLS = (
    ("in\nout", ((), (), ())),
    ("in a\nout", (("a",), (), ())),
    ("in a\nout a", (("a",), (), ("a",))),
    ("in a b\nout b a", (("a", "b"), (), ("b", "a"))),
    ("in\nx one\nout", ((), (("x", "one", ()),), ())),
    ("in\nx one\ny nil\nout y x", ((), (("x", "one", ()), ("y", "nil", ())), ("y", "x"))),
    ("in a\nx not a\nout x", (("a",), (("x", "not", ("a",)),), ("x",))),
    ("in a\nx not a\ny not x\nout a y x",
     (("a",), (("x", "not", ("a",)), ("y", "not", ("x",))), ("a", "y", "x"))),
    (ADDER,
     (("x", "y", "c"), (("s", "odd", ("x", "y", "c")), ("m", "most", ("x", "y", "c"))), ("s", "m"))),
    # A gate's names may be alike.
    ("in a b\nx and a a\ny or b b b\nz most a b a\nu odd z z\nout x y z u",
     (("a", "b"),
      (("x", "and", ("a", "a")), ("y", "or", ("b", "b", "b")), ("z", "most", ("a", "b", "a")),
       ("u", "odd", ("z", "z"))),
      ("x", "y", "z", "u"))),
    # Names of one letter and of eight, a and z among the letters.
    ("in a abcdefgh\nz or a abcdefgh\nzyxwvuts and z a\nout zyxwvuts z",
     (("a", "abcdefgh"), (("z", "or", ("a", "abcdefgh")), ("zyxwvuts", "and", ("z", "a"))), ("zyxwvuts", "z"))),
    # Names that are a word with a letter more, or less.
    ("in ina outa anda ora odda\nmosta not ina\nnota not outa\nonea one\nnila nil\nout mosta nota onea nila",
     (("ina", "outa", "anda", "ora", "odda"),
      (("mosta", "not", ("ina",)), ("nota", "not", ("outa",)), ("onea", "one", ()), ("nila", "nil", ())),
      ("mosta", "nota", "onea", "nila"))),
    ("in i ou an o od\nmos not i\nno not ou\non one\nni nil\nout mos no on ni",
     (("i", "ou", "an", "o", "od"),
      (("mos", "not", ("i",)), ("no", "not", ("ou",)), ("on", "one", ()), ("ni", "nil", ())),
      ("mos", "no", "on", "ni"))),
    (EVERY_WORD,
     (("a", "b", "c"),
      (("atwo", "and", ("a", "b")), ("athree", "and", ("a", "b", "c")),
       ("otwo", "or", ("a", "b")), ("othree", "or", ("a", "b", "c")),
       ("xtwo", "odd", ("a", "b")), ("xthree", "odd", ("a", "b", "c")),
       ("m", "most", ("a", "b", "c")), ("n", "not", ("a",)), ("high", "one", ()), ("low", "nil", ())),
      ("atwo", "athree", "otwo", "othree", "xtwo", "xthree"))),
)
