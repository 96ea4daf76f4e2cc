"""Point [19]: the desk, line by line."""

import random
import unittest

from cases import ADDER, CELLS, GREATEST, ROWS, WORDS, cell_of, row_of
from laidcells.errors import NoAsk, NoCell, NoName
from laidcells.rows.judged import judged
from laidcells.rows.together import rows_together
from laidcells.rows.ways import gate_count, latest, ways
from laidcells.whole import Desk
from plain import any_of, any_row, plain_laid, sides

ADDER_LINE = "in x y c;s odd x y c;m most x y c;out s m"
LESS_LINE = "in x y c;s odd x y c;n not x;m most n y c;out s m"
DESK_WORDS = ("cell", "along", "lay", "judge", "late", "gates", "ways", "show", "both")


def cell_line(name, cell):
    rows = ["in " + " ".join(cell[0])] + [" ".join((gate, word) + names) for gate, word, names in cell[1]]
    return f"cell {name} " + ";".join([row.strip() for row in rows + ["out " + " ".join(cell[2])]])


def along_line(name, along):
    return " ".join(["along", name] + [word for pair in along for word in pair])


def desk_of(rows):
    """A desk that keeps these rows."""
    desk = Desk()
    for name, row in rows.items():
        desk.ask(cell_line(name, row[0]))
        desk.ask(along_line(name, row[1]))
    return desk


def two_adders():
    return desk_of({"p": ROWS["adder"], "q": ROWS["less"]})


class Case(unittest.TestCase):
    def told(self, desk, line, rows):
        for again in range(2):
            answer = desk.ask(line)
            self.assertIs(type(answer), list)
            self.assertEqual(answer, rows, line)
            # What the asker does to it changes nothing.
            answer.append("strange")

    def put(self, desk, line):
        self.assertEqual(desk.ask(line), [], line)


class Cells(Case):
    def test_a_cell_and_what_it_is_shown_as(self):
        desk = Desk()
        self.put(desk, "cell p " + ADDER_LINE)
        self.told(desk, "show p", ["in x y c", "s odd x y c", "m most x y c", "out s m"])

    def test_all_cells(self):
        for text, cell in CELLS:
            desk = Desk()
            if set(cell[0]) & set(cell[2]):
                with self.assertRaises(NoAsk):
                    desk.ask("cell p " + text.replace("\n", ";"))
                with self.assertRaises(NoAsk):
                    desk.ask("show p")
            else:
                self.put(desk, "cell p " + text.replace("\n", ";"))
                self.told(desk, "show p", text.split("\n"))

    def test_a_name_told_anew(self):
        desk = two_adders()
        self.put(desk, "cell p in x;n not x;out n")
        self.told(desk, "show p", ["in x", "n not x", "out n"])
        self.told(desk, "show q", LESS_LINE.split(";"))
        self.told(desk, "lay p 3 x 5", ["n 2"])
        # What was carried is gone, also where the cell is the same.
        desk = two_adders()
        self.put(desk, "cell p " + ADDER_LINE)
        self.told(desk, "lay p 2 x 3 y 1 c 1", ["s 3", "m 1"])

    def test_nothing_is_carried_at_first(self):
        desk = Desk()
        self.put(desk, "cell p " + ADDER_LINE)
        self.told(desk, "lay p 2 x 3 y 1 c 1", ["s 3", "m 1"])
        self.put(desk, "along p m c")
        self.told(desk, "lay p 2 x 3 y 1 c 1", ["s 1", "m 1"])

    def test_names_that_are_words_of_the_desk(self):
        desk = Desk()
        for name in DESK_WORDS:
            self.put(desk, f"cell {name} in {name};n not {name};out n")
        for at, name in enumerate(DESK_WORDS):
            self.told(desk, "show " + name, ["in " + name, "n not " + name, "out n"])
            self.told(desk, f"lay {name} 4 {name} {at}", [f"n {15 - at}"])
            self.told(desk, f"judge {name} {name} 1 n 1 - -1", ["shown"])
            self.told(desk, f"late {name} 7", ["1"])
            self.told(desk, f"gates {name} 7", ["7"])
            self.put(desk, f"along {name} n {name}")
            self.told(desk, "ways " + name, ["1", "1", "1"])
        self.put(desk, "cell cell in x;n not x;out n")
        self.put(desk, "both both cell cell n x")
        self.told(desk, "show both", ["in ax", "an not ax", "bn not an", "out bn"])

    def test_names_of_one_letter_and_of_eight(self):
        desk = Desk()
        for name in ("a", "z", "abcdefgh", "zzzzzzzz", "ina", "ou", "nota"):
            self.put(desk, f"cell {name} in;out")
            self.told(desk, "show " + name, ["in", "out"])

    def test_two_desks_side_by_side(self):
        one, other = Desk(), Desk()
        self.put(one, "cell p " + ADDER_LINE)
        with self.assertRaises(NoAsk):
            other.ask("show p")
        self.put(other, "cell p in x;n not x;out n")
        self.put(one, "along p m c")
        self.told(one, "lay p 2 x 3 y 1 c 0", ["s 0", "m 1"])
        self.told(other, "lay p 2 x 3", ["n 0"])
        self.put(other, "cell q in x;n not x;out n")
        with self.assertRaises(NoAsk):
            one.ask("show q")

    def test_a_desk_made_later_is_empty(self):
        two_adders()
        for line in ("show p", "late p 1", "both p p q", "along p m c"):
            with self.assertRaises(NoAsk):
                Desk().ask(line)


class Along(Case):
    def test_anew(self):
        desk = Desk()
        self.put(desk, "cell p in a b;u not a;v odd a b;out u v")
        self.told(desk, "lay p 3 a 2 b 1", ["u 5", "v 3"])
        self.put(desk, "along p u a")
        self.told(desk, "lay p 3 a 0 b 1", ["v 3", "u 1"])
        self.put(desk, "along p v b u a")
        self.told(desk, "lay p 3 a 1 b 0", ["u 0", "v 0"])
        self.put(desk, "along p u b v a")
        self.told(desk, "lay p 3 a 1 b 0", ["u 0", "v 1"])
        self.put(desk, "along p")
        self.told(desk, "lay p 3 a 2 b 1", ["u 5", "v 3"])
        self.told(desk, "show p", ["in a b", "u not a", "v odd a b", "out u v"])


class Laying(Case):
    def test_an_adder(self):
        desk = two_adders()
        self.told(desk, "lay p 8 x 200 y 100 c 1", ["s 45", "m 1"])
        self.told(desk, "lay p 8 c 1 y 100 x 200", ["s 45", "m 1"])
        self.told(desk, "lay q 8 x 200 y 100 c 0", ["s 100", "m 0"])
        self.told(desk, "lay p 40 x 1099511627775 y 1099511627775 c 1", ["s 1099511627775", "m 1"])
        self.told(desk, "lay p 1 x 0 y 0 c 0", ["s 0", "m 0"])

    def test_words_then_ends_each_in_the_outputs_order(self):
        desk = desk_of({"t": row_of("in x a b; u not a; s not x; v not b; t or x x; out v s u t", "u>a v>b")})
        self.told(desk, "lay t 2 b 0 x 1 a 1", ["s 2", "t 1", "v 0", "u 1"])

    def test_rows_without_words(self):
        desk = desk_of({"h": ROWS["no inputs"], "e": ROWS["empty"], "o": ROWS["no outputs"]})
        self.told(desk, "lay h 4", ["h 15", "l 0"])
        self.told(desk, "lay e 4", [])
        self.told(desk, "lay o 4 x 1 y 2", [])

    def test_rows_by_chance(self):
        chance = random.Random("desk")
        for step in range(150):
            row = any_row(chance, chance.randint(0, 6), chance.choice((1, 4, 24)), chance.randint(0, 6),
                          chance.randint(0, 4))
            desk = desk_of({"r": row})
            width = chance.choice((1, 2, 3, 40))
            ins, carried, outs, ends = sides(row)
            words = {name: chance.randint(0, 2 ** width - 1) for name in ins}
            edges = {name: chance.randint(0, 1) for name in carried}
            given = [f"{name} {number}" for name, number in (words | edges).items()]
            told, last = plain_laid(row, width, words, edges)
            self.told(desk, " ".join([f"lay r {width}"] + chance.sample(given, len(given))),
                      [f"{name} {told[name]}" for name in row[0][2] if name in told]
                      + [f"{name} {last[name]}" for name in row[0][2] if name in last])


class Judging(Case):
    def test_shown(self):
        desk = two_adders()
        self.told(desk, "judge p x 1 y 1 c 1 s -1", ["shown"])
        self.told(desk, "judge p s -999999999 c 999999999 x 999999999 y 999999999", ["shown"])
        self.told(desk, "judge q x 1 y -1 c -1 s -1 - 0", ["shown"])
        self.told(desk, "judge p", ["shown"])
        self.told(desk, "judge p x 0", ["shown"])

    def test_broken(self):
        desk = two_adders()
        self.told(desk, "judge p x 1 y 1 s -1", ["broken 1", "c 0", "x 1", "y 1"])
        self.told(desk, "judge p - 1", ["broken 1", "c 0", "x 0", "y 0"])
        self.told(desk, "judge p c 1 x 1 s -1 y 1 - -7", ["broken 1", "c 0", "x 0", "y 0"])
        self.told(desk, "judge p x 1 y 1 c 1 s -1 - 999999999", ["broken 1", "c 0", "x 0", "y 0"])

    def test_edges_in_alongs_order_then_words_in_the_inputs(self):
        # Broken where y and the second edge are 1: the order of along is not the inputs'.
        row = row_of("in y a x b; u or a x; v or b b; s and y b; out s u v", "v>b u>a")
        desk = desk_of({"t": row})
        self.told(desk, "judge t s 1", ["broken 1", "b 1", "a 0", "y 1", "x 0"])

    def test_all_edges_are_any(self):
        desk = desk_of({"n": ROWS["triple from nought"]})
        self.told(desk, "judge n x 3 c 1 d 2 s -1", ["broken 1", "d 1", "c 1", "x 0"])

    def test_rows_without_words(self):
        desk = desk_of({"h": ROWS["no inputs"], "e": ROWS["empty"]})
        self.told(desk, "judge h h 1 - -1 l 4", ["shown"])
        self.told(desk, "judge h l 1 h 1", ["broken 1"])
        self.told(desk, "judge e - 1", ["broken 1"])

    def test_rows_by_chance(self):
        chance = random.Random("desk judged")
        for step in range(120):
            row = any_row(chance, chance.randint(0, 5), chance.choice((1, 4, 9)), chance.randint(1, 5),
                          chance.randint(0, 3))
            ins, carried, outs, ends = sides(row)
            weights = {thing: chance.choice((0, 0, 1, -1)) for thing in [""] + ins + outs + carried}
            answer = judged(row, (any_of(row), weights))
            rows = ["shown"]
            if answer[0] == "broken":
                rows = [f"broken {answer[1]}"] + [f"{name} {answer[3][name]}" for name in carried]
                rows += [f"{name} {answer[2][name]}" for name in ins]
            given = [f"{thing or '-'} {weight}" for thing, weight in weights.items()]
            line = " ".join(["judge r"] + chance.sample(given, len(given)))
            self.told(desk_of({"r": row}), line, rows)


class Numbers(Case):
    def test_late_gates_and_ways(self):
        desk = two_adders()
        self.told(desk, "late p 1", ["1"])
        self.told(desk, "late p 40", ["40"])
        self.told(desk, "late q 3", ["4"])
        self.told(desk, "gates p 1", ["2"])
        self.told(desk, "gates q 40", ["120"])
        self.told(desk, "ways p", ["1", "1", "1"])
        self.told(desk, "ways q", ["2", "1", "1"])
        desk = desk_of({"s": ROWS["shift"], "e": ROWS["empty"]})
        self.told(desk, "ways s", ["1 2 3 4 5", "1", "0"])
        self.told(desk, "ways e", ["0", "1", "0"])
        self.told(desk, "late e 17", ["0"])
        self.told(desk, "gates e 17", ["0"])

    def test_rows_by_chance(self):
        chance = random.Random("desk numbers")
        for step in range(60):
            row = any_row(chance, chance.randint(0, 6), chance.choice((1, 4, 24)), chance.randint(0, 6), 4)
            desk = desk_of({"r": row})
            width = chance.randint(1, 40)
            self.told(desk, f"late r {width}", [str(latest(row, width))])
            self.told(desk, f"gates r {width}", [str(gate_count(row, width))])
            firsts, ring, more = ways(row)
            self.told(desk, "ways r", [" ".join(map(str, firsts)), str(ring), str(more)])


class Both(Case):
    def test_under_a_new_name(self):
        desk = two_adders()
        self.put(desk, "both r p q s x")
        self.told(desk, "show r", ["in ax ay ac by bc", "as odd ax ay ac", "am most ax ay ac", "bs odd as by bc",
                                   "bn not as", "bm most bn by bc", "out am bs bm"])
        self.told(desk, "lay r 8 ax 100 ay 50 ac 1 by 51 bc 0", ["bs 100", "am 0", "bm 0"])
        self.told(desk, "judge r ax 1 ay 1 ac 1 by -1 bc -1 bs -1", ["shown"])
        self.told(desk, "show p", ADDER_LINE.split(";"))
        self.told(desk, "show q", LESS_LINE.split(";"))

    def test_in_the_place_of_one_of_them(self):
        desk = two_adders()
        self.put(desk, "both p p p s y")
        self.told(desk, "judge p ax 1 ay 1 ac 1 bx 1 bc 1 bs -1", ["shown"])
        desk = two_adders()
        self.put(desk, "both q p q")
        self.told(desk, "lay q 2 ax 1 ay 1 ac 0 bx 3 by 1 bc 0", ["as 2", "bs 2", "am 0", "bm 0"])

    def test_several_pairs_and_none(self):
        desk = desk_of({"n": row_of("in x y; p and x y; q odd x y; out p q", ""), "p": ROWS["adder"]})
        self.put(desk, "both r n p q y p x")
        self.told(desk, "show r", ["in ax ay bc", "ap and ax ay", "aq odd ax ay", "bs odd ap aq bc",
                                   "bm most ap aq bc", "out bs bm"])
        self.put(desk, "both r n p")
        self.told(desk, "late r 3", ["3"])

    def test_rows_by_chance(self):
        chance = random.Random("desk both")
        for step in range(60):
            one, other = [any_row(chance, 3, 6, 3, 1) for side in range(2)]
            outs, ins = sides(one)[2], sides(other)[0]
            count = chance.randint(0, min(len(outs), len(ins)))
            pairs = tuple(zip(chance.sample(outs, count), chance.sample(ins, count)))
            desk = desk_of({"p": one, "q": other})
            self.put(desk, " ".join(["both r p q"] + [word for pair in pairs for word in pair]))
            cell, along = rows_together(one, other, pairs)
            self.told(desk, "show r", cell_line("r", cell)[len("cell r "):].split(";"))
            for row in (one, other):
                self.assertEqual(len(row[1]), 1)
            words = " ".join([f"{name} 1" for name in cell[0]])
            told, last = plain_laid((cell, along), 1, dict.fromkeys(cell[0], 1), dict.fromkeys(cell[0], 1))
            self.told(desk, "lay r 1 " + words, [f"{name} {told[name]}" for name in cell[2] if name in told]
                      + [f"{name} {last[name]}" for name in cell[2] if name in last])


class Refusals(Case):
    def setUp(self):
        self.desk = desk_of({"p": ROWS["adder"], "q": ROWS["less"], "n": ROWS["nothing"], "e": ROWS["empty"]})
        self.seen = self.state()

    def state(self):
        """All that the desk tells of what it keeps."""
        desk = self.desk
        told = [desk.ask(verb + name) for verb in ("show ", "ways ") for name in "pqne"]
        told += [desk.ask("lay p 3 x 3 y 5 c 1"), desk.ask("lay q 3 x 3 y 5 c 1"), desk.ask("lay n 3 x 3 y 5")]
        for name in ("r", "abcdefghi", "A", "in", "and"):
            with self.assertRaises(NoAsk):
                desk.ask("show " + name)
        return told

    def refused(self, line, error=NoAsk, **kept):
        for again in range(2):
            with self.assertRaises(error, msg=repr(line)) as caught:
                self.desk.ask(line)
            self.assertIs(type(caught.exception), error, repr(line))
            for name, value in kept.items():
                self.assertEqual(getattr(caught.exception, name), value, repr(line))
        self.assertEqual(self.state(), self.seen, repr(line))

    def test_other_lines(self):
        for line in ("", "p", "strange", "strange p", "Show p", "SHOW p", "showp", "show-p", "in x", "cells p in;out",
                     "cel p in;out", "out", "lays p 1", "judged p", "way p", "gate p 1", "bot r p q", "-", ";",
                     "show;p", "show,p", "show\tp"):
            self.refused(line)

    def test_words_lacking(self):
        for line in ("cell", "cell r", "along", "lay", "lay p", "judge", "late", "late p", "gates", "gates p", "ways",
                     "show", "both", "both r", "both r p"):
            self.refused(line)

    def test_too_many_words(self):
        for line in ("late p 3 4", "late p 3 x", "gates p 3 4", "ways p q", "ways p 3", "show p q", "show p p",
                     "late p q 3", "gates p q 3"):
            self.refused(line)

    def test_blanks(self):
        for line in ("show p", "ways p", "late p 3", "gates p 3", "along p m c", "along p", "lay p 3 x 1 y 1 c 1",
                     "judge p x 1 y 1", "judge p", "both r p q s x", "both r p q", "lay e 3"):
            self.refused(" " + line)
            self.refused(line + " ")
            for at, sign in enumerate(line):
                if sign == " ":
                    self.refused(line[:at] + " " + line[at:])
                    self.refused(line[:at] + "\t" + line[at + 1:])
        for line in (" ", "  ", " cell r in;out", "cell  r in;out", "cell ", "cell  ", "cell  in;out"):
            self.refused(line)

    def test_a_line_end(self):
        for line in ("show p", "ways p", "late p 3", "gates p 3", "along p m c", "lay p 3 x 1 y 1 c 1", "judge p x 1",
                     "both r p q s x", "cell r in x;n not x;out n", "cell r in;out"):
            self.refused(line + "\n")
            self.refused("\n" + line)
            self.refused(line.replace(" ", "\n", 1))
            self.refused(line.replace(" ", " \n", 1))
        self.refused("cell r in x\nn not x\nout n")
        self.refused("cell r in x;n not x\nout n")
        self.refused("cell r strange\n")
        self.refused("\n")

    def test_names_that_are_none(self):
        for name in ("A", "P", "pP", "p1", "1", "p-", "-", "p;", "abcdefghi", "p_q", "p.q", "p\u00e4") + WORDS:
            self.refused(f"cell {name} in;out")
            self.refused(f"both {name} p q")
            # With what the parts would refuse, too.
            self.refused(f"cell {name} strange")
            self.refused(f"both {name} p q zz yy")

    def test_names_that_are_not_there(self):
        for name in ("r", "pp", "x", "P", "", "in", "abcdefghi", "-", "3"):
            for line in ("along {}", "along {} m c", "lay {} 3 x 1 y 1 c 1", "lay {} 3", "judge {} x 1", "judge {}",
                         "late {} 3", "gates {} 3", "ways {}", "show {}", "both r {} p", "both r p {}", "both {} {} {}",
                         "both r {} p zz yy", "both r p {} zz yy"):
                self.refused(line.replace("{}", name))

    def test_along(self):
        # Inputs and outputs exchanged, a gate that is no output, not there, twice, not whole.
        for rest in ("c m", "m s", "x c", "n c", "zz c", "m zz", "m c m x", "m c s c", "m c m c", "m", "m c s",
                     "m c s x y", "A c", "m 1", "- c", "p q"):
            self.refused("along q " + rest)
        self.refused("along e h c")

    def test_lay_names(self):
        # Lacking, twice, not there, of another kind.
        for rest in ("", "x 1", "x 1 y 1", "y 1 c 1", "x 1 c 1", "x 1 y 1 c 1 x 1", "x 1 x 1 c 1", "x 1 y 1 c 1 s 1",
                     "x 1 y 1 s 1", "x 1 y 1 m 1", "x 1 y 1 zz 1", "x 1 y 1 c 1 zz 1", "x 1 y 1 c 1 m 0", "x 1 y 1 C 1",
                     "x 1 y 1 - 1", "x 1 y 1 c 1 - 1"):
            self.refused(("lay p 3 " + rest).strip())
        self.refused("lay e 3 x 1")
        for rest in ("x", "x 1 y", "x 1 y 1 c", "x 1 y 1 c 1 1", "x y c", "1 x 1 y 1 c", "x 1 y 1 c 1 s"):
            self.refused("lay p 3 " + rest)

    def test_widths(self):
        for width in ("0", "41", "01", "00", "040", "-1", "+1", "1.0", "x", "100", "1_0", "4O", "-", "0x1", "\u0661",
                      "\u00b2", "9" * 1900, "-0"):
            self.refused(f"lay p {width} x 0 y 0 c 0")
            self.refused(f"late p {width}")
            self.refused(f"gates p {width}")
        self.refused("lay e 41")
        self.refused("lay e 0")
        for width in range(1, 41):
            self.assertEqual(self.desk.ask(f"lay p {width} x 0 y 0 c 0"), ["s 0", "m 0"])
            self.assertEqual(self.desk.ask(f"late p {width}"), [str(width)])
            self.assertEqual(self.desk.ask(f"gates p {width}"), [str(2 * width)])

    def test_words_and_edges(self):
        for width in (1, 2, 3, 39, 40):
            top = 2 ** width
            self.assertEqual(self.desk.ask(f"lay p {width} x {top - 1} y 0 c 0"), [f"s {top - 1}", "m 0"])
            for number in (str(top), str(10 * top), "00", "01", "-1", "-0", "+1", "1.0", "x", "-", "", "1e0", "0x1",
                           "\u0661", "\u00b2", "9" * 1900):
                self.refused(f"lay p {width} x {number} y 0 c 0")
                self.refused(f"lay p {width} c 0 x 0 y {number}")
                self.refused(f"lay p {width} x 0 y 0 c {number}")
            self.refused(f"lay p {width} x 0 y 0 c 2")
            self.refused(f"lay p {width} x 0 y 0 c 10")

    def test_judge(self):
        for number in ("1000000000", "-1000000000", "9" * 1900, "-" + "9" * 1900, "01", "00", "-01", "-00", "-0", "--1",
                       "+1", "-", "1-", "x", "1.0", "1e1", "", "\u0661", "- 1"):
            self.refused(f"judge p x {number}")
            self.refused(f"judge p x 1 - {number}")
            self.refused(f"judge p x {number} y 1 c 1 s -1")
        # Twice, not there, of another kind: a carried output, a gate that is no output, a pair that is not whole.
        for rest in ("x 1 x 1", "x 1 y 1 x -1", "- 1 - 1", "s 1 s 0", "m 1", "n 1", "zz 1", "X 1", "x 1 m 0", "x",
                     "x 1 y", "-", "1", "1 x", "x 1 2", "x y", "-- 1", "q 1", "in 1"):
            self.refused("judge q " + rest)
        self.refused("judge e x 1")
        self.refused("judge n c 1")

    def test_both(self):
        self.refused("both r p q s")
        self.refused("both r p q s x m")
        self.refused("both r p q zz yy xx")
        # As the parts refuse: names of the pairs, the output first, taken already.
        for rest, word in (("zz x", "zz"), ("s zz", "zz"), ("m x", "m"), ("s c", "c"), ("s x s y", "s"),
                           ("n x", "n"), ("S x", "S"), ("s 1", "1"), ("- x", "-"), ("in out", "in"), ("s in", "in"),
                           ("abcdefghi x", "abcdefghi"), ("s s", "s"), ("x s", "x")):
            self.refused("both r p q " + rest, NoName, word=word)
            self.refused("both p p q " + rest, NoName, word=word)
        self.refused("both r n p q x p x", NoName, word="x")
        # Too many outputs, names too long, a name that is a word.
        self.refused("both r n n", NoCell, row=0)
        self.refused("both p n p", NoCell, row=0)
        self.desk.ask("cell r in abcdefgh;nd not abcdefgh;out nd")
        for line in ("both q r p", "both q p r", "both q r p nd x"):
            self.seen = None
            with self.assertRaises(NoCell) as caught:
                self.desk.ask(line)
            self.assertEqual(caught.exception.row, 0)
        self.assertEqual(self.desk.ask("show q"), LESS_LINE.split(";"))
        self.assertEqual(self.desk.ask("show r"), ["in abcdefgh", "nd not abcdefgh", "out nd"])

    def test_texts_that_are_no_cells(self):
        for text, row in (("strange", 0), ("in", 1), ("in x", 1), ("in x;out y", 1), ("in x;n not y;out n", 1),
                          ("in x;n not x;out n;", 3), ("in x;n not x;out n;out n", 3), (";in x;out", 0),
                          ("in x;;n not x;out n", 1), ("out", 0), ("in x;n not x", 2), (";", 0), ("in x,out", 0),
                          ("in x;n not x;out n n", 2), ("in x;x not x;out x", 1), ("in abcdefghi;out", 0),
                          ("in X;out", 0)):
            self.refused("cell r " + text, NoCell, row=row)
            self.refused("cell p " + text, NoCell, row=row)

    def test_an_empty_text_is_read(self):
        self.refused("cell r ", NoCell, row=0)
        self.refused("cell p ", NoCell, row=0)

    def test_a_blank_beside_the_parting_sign(self):
        for text, row in (("in x ;n not x;out n", 0), ("in x; n not x;out n", 1), ("in x;n not x ;out n", 1),
                          ("in x;n not x; out n", 2), ("in x ; n not x ; out n", 0), ("in ;out", 0), ("in; out", 1)):
            self.refused("cell r " + text, NoCell, row=row)
            self.refused("cell p " + text, NoCell, row=row)

    def test_blanks_in_a_text_are_read_with_it(self):
        for text, row in ((" in x;out", 0), ("in  x;out", 0), ("in x;n  not x;out n", 1), ("in x;n not x;out n ", 2),
                          ("in x;n not x;out  n", 2), (" ", 0)):
            self.refused("cell r " + text, NoCell, row=row)

    def test_an_output_that_is_an_input(self):
        for text in ("in x;out x", "in x y;n not x;out n y", "in x y;n not x;out x n", "in a b;out b a"):
            self.refused("cell r " + text)
            self.refused("cell p " + text)
        # What is no cell is refused first, and so.
        self.refused("cell r in x;out x;", NoCell, row=2)
        self.refused("cell r in x;out x x", NoCell, row=1)
        self.refused("cell r in x;n not y;out x", NoCell, row=1)

    def test_told_lists_are_the_askers_own(self):
        for line in ("show p", "ways p", "late p 3", "gates p 3", "lay p 3 x 1 y 1 c 1", "judge p x 1", "along p m c",
                     "judge p x 1 y 1 c 1 s -1"):
            told = self.desk.ask(line)
            kept = list(told)
            told.clear()
            told.extend(["strange"] * 5)
            self.assertEqual(self.desk.ask(line), kept)
        self.assertEqual(self.state(), self.seen)


class Great(Case):
    def test_the_greatest_cell(self):
        inputs, gates, outputs = cell_of(GREATEST.replace("\n", ";"))
        cell = (inputs, gates, tuple(name for name, word, names in gates[-6:]))
        row = (cell, tuple(zip(cell[2][:4], inputs[2:])))
        desk = desk_of({"abcdefgh": row})
        self.told(desk, "show abcdefgh", cell_line("x", cell)[len("cell x "):].split(";"))
        words, edges = dict.fromkeys(inputs[:2], 2 ** 40 - 1), dict.fromkeys(inputs[2:], 1)
        told, last = plain_laid(row, 40, words, edges)
        line = " ".join(["lay abcdefgh 40"] + [f"{name} {number}" for name, number in (words | edges).items()])
        self.told(desk, line, [f"{name} {told[name]}" for name in cell[2] if name in told]
                  + [f"{name} {last[name]}" for name in cell[2] if name in last])

    def test_text_as_the_rows_of_a_cell(self):
        self.assertEqual(ADDER.replace("\n", ";"), ADDER_LINE)


if __name__ == "__main__":
    unittest.main()
