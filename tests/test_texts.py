import inspect
import random
import unittest

from piecefacts import texts
from piecefacts.errors import BadText
from piecefacts.questions import where
from piecefacts.table import Table
from piecefacts.texts import read_table, show_table
from tests.any_values import ANY_VALUES
from tests.begun import assert_refused, check_table_examples
from tests.histories import Drawer, History
from tests.test_answers import begun
from tests.test_histories import DOMAINS, wander
from tests.text_model import wrong_line

FULL = """columns a b
version 5
since 2
cut a -3 4
cut b 0
next 9 5
readings 3
row 0 1 2 5 ?
row 1 1 - -9999 9999
row 2 1 3 4 4
row 4 2 - 0 0
row 5 3 5 ? ?
row 7 5 - 1 -1
piece 1 0 1
points a 1 2 3 4
points b -9998
piece 3 2 4
points b 9999
hold 3 3 1"""
# A change of a line of FULL, and the line that is wrong then.
WRONG = [
    ("columns a b", "columns b a", 4), ("columns a b", "columns a", 4), ("columns a b", "columns", 0), ("columns a b", "columns ", 0),
    ("columns a b", "columns a a", 0), ("columns a b", "columns a and", 0), ("columns a b", "columns a b c d e", 0),
    ("columns a b", "columns a b ", 0), ("columns a b", "columns  a b", 0), ("columns a b", " columns a b", 0),
    ("columns a b", "Columns a b", 0), ("columns a b", "columns a b c", 7), ("columns a b", "", 0),
    ("version 5", "version", 1), ("version 5", "version 05", 1), ("version 5", "version -5", 1), ("version 5", "version 5 5", 1),
    ("version 5", "version 1000000000", 1), ("version 5", "version 999999999", None), ("version 5", "version 4", 11),
    ("version 5", "version 1", 2), ("version 5", "version 2", 9), ("version 5", "version +5", 1), ("version 5", "version " + "9" * 9999, 1),
    ("since 2", "since 6", 2), ("since 2", "since 0", None), ("since 2", "since 3", None), ("since 2", "since 5", 18),
    ("since 2", "since -0", 2), ("since 2", "since 1.0", 2), ("since 2", "version 2", 2),
    ("cut a -3 4", "cut a", 3), ("cut a -3 4", "cut a 4 -3", 3), ("cut a -3 4", "cut a 4 4", 3), ("cut a -3 4", "cut c 4", 3),
    ("cut a -3 4", "cut a 1 2 3 4 5", 3), ("cut a -3 4", "cut a -9999 4", 3), ("cut a -3 4", "cut a 4 10000", 3),
    ("cut a -3 4", "cut a -9998 9999", None), ("cut a -3 4", "cut a -0", 3), ("cut a -3 4", "cut b 4", 4), ("cut a -3 4", "cut 4 a", 3),
    ("cut b 0", "cut a 0", 4), ("cut b 0", "points b 0", 4), ("cut b 0", "cut b 0\ncut b 0", 5), ("cut b 0", "cut b ?", 4),
    ("next 9 5", "next 8 4", None), ("next 9 5", "next 7 4", 12), ("next 9 5", "next 9 3", 16), ("next 9 5", "next 9 1", 13),
    ("next 9 5", "next 9", 5), ("next 9 5", "next 9 5 5", 5), ("next 9 5", "next 9 -5", 5), ("next 9 5", "next 9 5\nnext 9 5", 6),
    ("readings 3", "readings 0", None), ("readings 3", "readings -1", 6), ("readings 3", "readings", 6), ("readings 3", "readings 3 3", 6),
    ("row 0 1 2 5 ?", "row 0 0 2 5 ?", 7), ("row 0 1 2 5 ?", "row 0 1 1 5 ?", 7), ("row 0 1 2 5 ?", "row 0 1 6 5 ?", 7),
    ("row 0 1 2 5 ?", "row 0 2 3 5 ?", 8), ("row 0 1 2 5 ?", "row 0 1 2 5", 7), ("row 0 1 2 5 ?", "row 0 1 2 5 ? ?", 7),
    ("row 0 1 2 5 ?", "row 0 1 2 5 None", 7), ("row 0 1 2 5 ?", "row 0 1 2 5 -", 7), ("row 0 1 2 5 ?", "row 0 1 ? 5 1", 7),
    ("row 0 1 2 5 ?", "row 0 1 -2 5 1", 7), ("row 0 1 2 5 ?", "row 0 1 2 10000 ?", 7), ("row 0 1 2 5 ?", "row 0 1 2 -10000 ?", 7),
    ("row 0 1 2 5 ?", "row 1 1 2 5 ?", 8), ("row 0 1 2 5 ?", "row 0 1 2 -0 ?", 7), ("row 0 1 2 5 ?", "row -0 1 2 5 ?", 7),
    ("row 1 1 - -9999 9999", "row 1 1 2 -9999 9999", 13), ("row 1 1 - -9999 9999", "row 0 1 - 1 1", 8),
    ("row 1 1 - -9999 9999", "row 2 1 - 1 1", 9), ("row 2 1 3 4 4", "row 2 1 2 4 4", None), ("row 4 2 - 0 0", "row 4 2 3 0 0", None),
    ("row 5 3 5 ? ?", "row 5 3 4 ? ?", None), ("row 5 3 5 ? ?", "row 5 1 2 ? ?", 11), ("row 5 3 5 ? ?", "row 5 2 3 ? ?", None),
    ("row 5 3 5 ? ?", "row 5 6 - ? ?", 11), ("row 7 5 - 1 -1", "row 9 5 - 1 -1", 12), ("row 7 5 - 1 -1", "row 8 5 - 1 -1", None),
    ("row 7 5 - 1 -1", "row 7 2 - 1 -1", 12), ("row 7 5 - 1 -1", "row 7 5 5 1 -1", 12), ("row 7 5 - 1 -1", "piece 0 7", 12),
    ("points b 9999", "points b 9999\npiece 2 5", 18), ("points b 9999", "points b 9999\npiece 3 5", 18),
    ("points b 9999", "points b 9999\npiece 4 5", None), ("points b 9999", "points b 9999\npiece 1 5", 18),
    ("piece 1 0 1", "piece", 13), ("row 0 1 2 5 ?", "row", 7), ("points b 9999", "points", 17), ("next 9 5", "next", 5),
    ("piece 1 0 1", "piece 1", 13), ("piece 1 0 1", "piece 1 1 0", 13), ("piece 1 0 1", "piece 1 0 1 1", 13), ("piece 1 0 1", "piece 1 0", 13),
    ("piece 1 0 1", "piece 1 1", 18), ("piece 1 0 1", "piece 3 0 1", 16), ("piece 1 0 1", "piece 5 0 1", 13), ("piece 1 0 1", "piece 1 1 3", 13),
    ("piece 1 0 1", "piece 1 0 1 2", 16), ("piece 1 0 1", "piece 0 0 1", 18), ("piece 1 0 1", "piece 2 0 1", 18), ("piece 1 0 1", "piece 1 0 1 5", None),
    ("piece 1 0 1", "piece 1 0 1 7", 18), ("piece 1 0 1", "row 8 5 - 1 1", 14), ("piece 1 0 1", "piece 1 -0 1", 13),
    ("points a 1 2 3 4", "points b 1", 15), ("points a 1 2 3 4", "points a", 14), ("points a 1 2 3 4", "points a 1 2 3 4 5", 14),
    ("points a 1 2 3 4", "points c 1", 14), ("points a 1 2 3 4", "cut a 1", 14), ("points a 1 2 3 4", "points a 2 1", 14),
    ("points b -9998", "points b -9999", 15), ("points b -9998", "points b -9998\npoints b -9998", 16), ("points b 9999", "points b 10000", 17),
    ("piece 3 2 4", "piece 3 2", None), ("piece 3 2 4", "piece 3 4", 18), ("piece 3 2 4", "piece 3 2 4 5", None),
    ("piece 3 2 4", "piece 3 2 5", 18), ("piece 3 2 4", "piece 3 2 4 7", 18),
    ("hold 3 3 1", "hold 1 3 1", 18), ("hold 3 3 1", "hold 2 3 1", None), ("hold 3 3 1", "hold 3 3 3", 18), ("hold 3 3 1", "hold 3 2", 18),
    ("hold 3 3 1", "hold 13 3 1", 18), ("hold 3 3 1", "hold 12", None), ("hold 3 3 1", "hold", 18), ("hold 3 3 1", "hold -0", 18),
    ("hold 3 3 1", "hold 0 3", 18), ("hold 3 3 1", "hold 0", None), ("hold 3 3 1", "hold 3 3 1 ", 18), ("hold 3 3 1", "hold 3 3 1\n", 19),
    ("hold 3 3 1", "hold 3 3 1\nhold 3 3 1", 19), ("hold 3 3 1", "hold 3 3 1\n\n", 19), ("hold 3 3 1", "hold 13 3 1\n", 18),
    ("hold 3 3 1", "piece 4 7", 19), ("hold 3 3 1", "points a 1", 18), ("hold 3 3 1", "row 8 5 - 1 1", 18), ("\nhold 3 3 1", "", 18),
]


def change_text(chance, text):
    """Return a text with one line, word or number otherwise."""
    lines = text.split("\n")
    k, n = chance.randrange(len(lines)), chance.randrange(len(lines))
    kind = chance.randrange(9)
    if kind == 0:
        del lines[k]
    elif kind == 1:
        lines.insert(n, lines[k])
    elif kind == 2:
        lines[k], lines[n] = lines[n], lines[k]
    elif kind == 3:
        lines = lines[:k]
    elif kind == 4:
        lines[k] = chance.choice(["", " ", "row", "hold 0", "piece 0 0", "points a 1", "cut a 1", "x", lines[k] + " ", " " + lines[k],
                                  lines[k].replace(" ", "  ", 1), lines[k] + "\n", lines[k] + "\r", lines[k].upper()])
    else:
        words = lines[k].split(" ")
        at = chance.randrange(len(words))
        if kind == 5:
            del words[at]
        elif kind == 6:
            words.insert(at, chance.choice(words))
        else:
            words[at] = change_word(chance, words[at])
        lines[k] = " ".join(words)
    return "\n".join(lines)


def change_word(chance, word):
    """Return another word, most of the time a number near by if it is one."""
    if word.lstrip("-").isdigit() and word != "-" and chance.random() < 0.8:
        return str(int(word) + chance.choice([-3, -2, -1, 1, 2, 3, 10, 10 ** 9]))
    return chance.choice(["", "-", "?", "0", "1", "7", "00", "-0", "-1", "01", "+1", "a", "b", "and", "9999", "10000", "-9999", "-10000",
                          "1" * 10, "1_0", "\u0661", "1.", "None"])


class ExamplesTest(unittest.TestCase):
    def test_examples_of_section_21(self):
        check_table_examples(self, r"""
>>> from piecefacts.texts import read_table, show_table
>>> small = Table('a')
>>> begun = [small.put((3,), (None,)), small.pack(1), small.drop(1)]
>>> show_table(small)
'columns a\nversion 2\nsince 0\nnext 2 1\nreadings 0\nrow 0 1 - 3\nrow 1 1 2 ?\npiece 0 0\nhold 0'
>>> read_table(show_table(small).replace('hold 0', 'hold 1 1'))
raises BadText(line=8)
""")

    def test_interface(self):
        for name, arguments in [("show_table", "(table)"), ("read_table", "(text)")]:
            self.assertEqual(getattr(texts, name).__module__, "piecefacts.texts")
            self.assertEqual(str(inspect.signature(getattr(texts, name))), arguments)
        self.assertEqual(read_table(text=show_table(table=Table("a"))), Table("a"))


class ShowTest(unittest.TestCase):
    def test_an_empty_table(self):
        self.assertEqual(show_table(Table("k", "b")), "columns k b\nversion 0\nsince 0\nnext 0 0\nreadings 0\nhold 0")

    def test_all_lines(self):
        table = Table("a", "b")
        table.put((5, None), (-9999, 9999))
        table.cut("b", -9998)
        table.cut("a", 1, 2, 3, 4)
        table.drop(0)
        table.put((1, 1))
        table.pack(2)
        table.cut("a")
        table.cut("b", 0)
        table.pack(1)
        table.put((7, 7))
        table.forget(2)
        table.hold(3)
        table.shown(1)
        self.assertEqual(show_table(table), "\n".join([
            "columns a b", "version 4", "since 2", "cut b 0", "next 4 2", "readings 1", "row 0 1 2 5 ?", "row 1 1 - -9999 9999",
            "row 2 3 - 1 1", "row 3 4 - 7 7", "piece 0 0 1", "points a 1 2 3 4", "points b -9998", "piece 1 2", "points b 0", "hold 3 0"]))

    def test_showing_is_no_reading(self):
        table = begun()
        show_table(table)
        self.assertEqual(table.readings, 0)


class ReadTest(unittest.TestCase):
    def test_a_full_text(self):
        table = read_table(FULL)
        self.assertEqual(show_table(table), FULL)
        self.assertEqual((table.columns, table.version, table.since, table.pieces, table.held, table.readings),
                         (("a", "b"), 5, 2, (1, 3), (3, 1), 3))
        self.assertEqual([table.ids(at=at) for at in (2, 3, 4, 5)], [(1, 2, 4), (1, 4, 5), (1, 4, 5), (1, 4, 7)])
        self.assertEqual((table.ids_in(1), table.ids_in(3)), ((0, 1), (2, 4)))
        self.assertEqual(table.facts_at(1), (2, (("a", (1, 2, 3, 4), 0, -9999, 5, ((1, -9999), (0, 0), (0, 0), (0, 0), (1, 5))),
                                                 ("b", (-9998,), 1, 9999, 9999, ((0, 0), (1, 9999))))))
        self.assertEqual(table.matching(where("a", ((0, 9),))).told, (4, 7))
        self.assertEqual((table.put((1, 2)), table.pack(1), table.shown(7).read), ((9,), 5, ()))
        self.assertEqual(table.ids_in(5), (5,))

    def test_wrong_lines(self):
        self.assertIsNone(wrong_line(FULL))
        for old, new, line in WRONG:
            self.assertEqual(FULL.count(old + "\n") + FULL.endswith(old), 1, old)
            text = (FULL + "\n").replace(old + "\n", new + "\n")[:-1] if not old.startswith("\n") else FULL.replace(old, new)
            self.assertEqual(wrong_line(text), line, (old, new))
            if line is None:
                self.assertEqual(show_table(read_table(text)), text)
            else:
                assert_refused(self, [], BadText, {"line": line}, read_table, text)

    def test_lines_that_are_missing(self):
        lines = FULL.split("\n")
        for k in range(1, len(lines)):
            assert_refused(self, [], BadText, {"line": k}, read_table, "\n".join(lines[:k]))
            assert_refused(self, [], BadText, {"line": k}, read_table, "\n".join(lines[:k]) + "\n")
        assert_refused(self, [], BadText, {"line": 0}, read_table, "")
        assert_refused(self, [], BadText, {"line": 0}, read_table, "\n" + FULL)
        assert_refused(self, [], BadText, {"line": 19}, read_table, FULL + "\n")

    def test_other_line_ends(self):
        for end in ("\r\n", "\r", "\v", "\f", "\u2028", "\x1e", " "):
            self.assertEqual(wrong_line(FULL.replace("\n", end)), 0)
            assert_refused(self, [], BadText, {"line": 0}, read_table, FULL.replace("\n", end))
        assert_refused(self, [], BadText, {"line": 18}, read_table, FULL + "\r")

    def test_values_of_any_kind(self):
        for value in [*ANY_VALUES, FULL.split("\n"), tuple(FULL.split("\n")), [FULL], 0, "columns"]:
            line = 1 if value == "columns a" else 0
            assert_refused(self, [], BadText, {"line": line}, read_table, value)
        self.assertEqual(wrong_line("columns a"), 1)
        assert_refused(self, [], BadText, {"line": 1}, read_table, "columns a")

    def test_pieces_of_20_rows(self):
        lines = ["columns a", "version 1", "since 0", "next 30 9", "readings 0", *["row %d 1 - 3" % k for k in range(30)]]
        piece = lambda number, ids: " ".join(map(str, ["piece", number, *ids]))
        for low, high, line in [(0, 20, None), (0, 21, 35), (0, 1, None), (5, 20, 36)]:
            text = "\n".join([*lines, piece(3, range(low, high)), "hold 0"])
            self.assertEqual(wrong_line(text), line)
            if line is None:
                self.assertEqual(show_table(read_table(text)), text)
            else:
                assert_refused(self, [], BadText, {"line": line}, read_table, text)

    def test_long_texts_are_read(self):
        lines = ["columns a", "version 999999999", "since 0", "next 999999999 999999999", "readings 999999999",
                 *["row %d %d - ?" % (k, k + 1) for k in range(300)], *["piece %d %d" % (k, k) for k in range(100)], "hold 12 5 4 7 99"]
        table = read_table("\n".join(lines))
        self.assertEqual(show_table(table), "\n".join(lines))
        self.assertEqual((table.put((1,)), table.version), ((999999999,), 10 ** 9))

    def test_changed_texts(self):
        chance = random.Random(11)
        right = 0
        wrong = []
        for seed in range(25):
            history = History(self, ("a", "b") if seed % 2 else ("b", "c", "a"))
            drawer = Drawer(chance, history.plain.columns, chance.choice(DOMAINS))
            history.call("put", *[drawer.row() for _ in range(8)])
            wander(chance, drawer, history, 20)
            for text in [FULL, show_table(history.table)]:
                for _ in range(70):
                    changed = change_text(chance, text)
                    if chance.random() < 0.2:
                        changed = change_text(chance, changed)
                    line = wrong_line(changed)
                    if line is None:
                        right += 1
                        self.assertEqual(show_table(read_table(changed)), changed)
                    else:
                        wrong.append(changed.count("\n") - line)
                        assert_refused(self, [], BadText, {"line": line}, read_table, changed)
        self.assertGreater(min(right, len(set(wrong))), 15)


class ReadBackTest(unittest.TestCase):
    def test_a_table_that_is_read_back_answers_and_reads_as_the_original(self):
        for seed in range(30):
            chance = random.Random(seed)
            history = History(self, ("a", "b"))
            drawer = Drawer(chance, ("a", "b"), chance.choice(DOMAINS))
            history.call("put", *[drawer.row() for _ in range(15)])
            for _ in range(4):
                wander(chance, drawer, history, 6)
                history.read_back()
            history.check_all()

    def test_a_table_that_is_read_back_is_a_table_of_its_own(self):
        table = begun()
        table.hold(3)
        again = read_table(show_table(table))
        again.put((1, 1))
        again.fold(0)
        again.cut("a")
        self.assertEqual((table.version, table.pieces, table.readings), (1, (0, 1), 0))
        with table.trial(), table.trial(), table.trial(), table.trial():
            table.put((1, 1))
            inner = read_table(show_table(table))
            with inner.trial():
                self.assertEqual(inner.ids()[-1], 6)
        self.assertEqual((table.ids()[-1], inner.ids()[-1]), (5, 6))


if __name__ == "__main__":
    unittest.main()
