import random
import re
import unittest

from calmring.errors import BadText
from calmring.texts import read_number, read_text
from promises import GREAT, NINES, check_own

# Point 32 once more, as a pattern for each kind of line.
NUMBER = r"(?:0|-?[1-9][0-9]{0,59})"
PLAIN = r"(?:0|[1-9][0-9]{0,59})"
PATTERNS = [
    f"net {NUMBER}( {PLAIN}-{PLAIN})*", f"pass {NUMBER} {NUMBER}", "paint", f"count( {NUMBER})*", f"far {NUMBER}",
    f"lead( {NUMBER})*", f"grow {NUMBER}", f"table {NUMBER} {NUMBER} (none|one) [0-9]{{1,64}} [0-9]{{1,64}}",
    f"state( {NUMBER})*", f"turn( {NUMBER})*", f"spoil {NUMBER} {NUMBER}", "may", "measure", "look( many)?"]

LINES = {
    "net 1": ("net", 1, []),
    "net 3 0-1 2-1": ("net", 3, [(0, 1), (2, 1)]),
    "net -3 10-0 7-7": ("net", -3, [(10, 0), (7, 7)]),
    "pass 3 4": ("pass", 3, 4),
    "pass -1 0": ("pass", -1, 0),
    "paint": ("paint",),
    "count": ("count", []),
    "count 0": ("count", [0]),
    "count 0 0 1 -5": ("count", [0, 0, 1, -5]),
    "far 2": ("far", 2),
    "far -2": ("far", -2),
    "lead": ("lead", []),
    "lead 9": ("lead", [9]),
    "lead 9 10 -1 0": ("lead", [9, 10, -1, 0]),
    "grow 0": ("grow", 0),
    "grow -10": ("grow", -10),
    "table 2 2 none 00110011 01": ("table", 2, 2, "none", [0, 0, 1, 1, 0, 0, 1, 1], [0, 1]),
    "table -8 0 one 9 0": ("table", -8, 0, "one", [9], [0]),
    "state": ("state", []),
    "state 7": ("state", [7]),
    "state 7 -7 0": ("state", [7, -7, 0]),
    "turn": ("turn", []),
    "turn 0": ("turn", [0]),
    "turn 2 2 -1": ("turn", [2, 2, -1]),
    "spoil 1 -1": ("spoil", 1, -1),
    "spoil -1 0": ("spoil", -1, 0),
    "may": ("may",),
    "measure": ("measure",),
    "look": ("look", False),
    "look many": ("look", True),
}


def is_text(text):
    return all(any(re.fullmatch(pattern, line) for pattern in PATTERNS) for line in text.split("\n"))


class NumberTest(unittest.TestCase):
    def check_bad(self, *words):
        for word in words:
            with self.assertRaises(BadText, msg=repr(word)):
                read_number(word)

    def test_numbers(self):
        for word, number in [("0", 0), ("1", 1), ("9", 9), ("10", 10), ("-1", -1), ("-10", -10), ("100", 100),
                             ("907", 907), ("-907", -907)]:
            self.assertEqual(read_number(word), number)
            self.assertIs(type(read_number(word)), int)

    def test_all_small_numbers(self):
        for number in range(-1200, 1200):
            self.assertEqual(read_number(str(number)), number)

    def test_noughts_ahead(self):
        self.check_bad("00", "01", "-01", "-00", "007", "000", "0" * 60, "0" + "1" * 59, "-0" + "1" * 59)

    def test_nought_below_nought(self):
        self.check_bad("-0")

    def test_sixty_and_sixty_one_figures(self):
        self.assertEqual(read_number("9" * 60), NINES)
        self.assertEqual(read_number("-" + "9" * 60), -NINES)
        self.assertEqual(read_number("1" + "0" * 59), GREAT)
        self.assertEqual(read_number("-1" + "0" * 59), -GREAT)
        self.assertEqual(read_number("9" * 59), NINES // 10)
        self.check_bad("9" * 61, "-" + "9" * 61, "1" + "0" * 60, "-1" + "0" * 60, "1" * 300, "1" * 5000)

    def test_other_signs(self):
        self.check_bad("+1", "1_0", "1.0", "1e3", "0x1", "1,0", "a", "1a", "a1", "-a", "1-", "--1", "-+1", "1-1", "+", "_1",
                       "~", "1~", "/", ":", "1/", "1:", "O", "l")

    def test_blanks_tabs_and_line_ends(self):
        self.check_bad(" 1", "1 ", "- 1", "1 0", " ", "\t1", "1\t", "\n1", "1\n", "\n", "\t", "1\n2", "-1 ", " -1")

    def test_the_text_without_signs(self):
        self.check_bad("")

    def test_a_sign_alone(self):
        self.check_bad("-", "--")

    def test_every_short_text_by_the_words(self):
        signs = "012-+_ a\t\n"
        words = [a + b + c for a in [""] + list(signs) for b in [""] + list(signs) for c in [""] + list(signs)]
        for word in words:
            if re.fullmatch(NUMBER, word):
                self.assertEqual(str(read_number(word)), word)
            else:
                self.check_bad(word)


class TextTest(unittest.TestCase):
    def check_bad(self, *texts):
        for text in texts:
            with self.assertRaises(BadText, msg=repr(text)):
                read_text(text)

    def test_each_kind_of_line(self):
        for line, told in LINES.items():
            self.assertEqual(read_text(line), [told], line)

    def test_kinds(self):
        for line in LINES:
            rows = read_text(line)
            self.assertEqual((type(rows), type(rows[0])), (list, tuple))
            for one in rows[0]:
                self.assertIn(type(one), (str, int, list, bool))
                if isinstance(one, bool):
                    self.assertEqual(rows[0][0], "look")
                if isinstance(one, list):
                    self.assertEqual([type(part) for part in one], [tuple if line[:3] == "net" else int] * len(one))

    def test_many_lines_in_any_order(self):
        lines = list(LINES)
        for order in (lines, lines[::-1], lines[7:] + lines[:7]):
            self.assertEqual(read_text("\n".join(order)), [LINES[line] for line in order])
        self.assertEqual(read_text("\n".join(["state 1 -2"] * 300)), [("state", [1, -2])] * 300)

    def test_numbers_of_sixty_figures(self):
        nines = "9" * 60
        self.assertEqual(read_text(f"state {nines} -{nines}\nspoil {nines} -{nines}\npass {nines} -{nines}"),
                         [("state", [NINES, -NINES]), ("spoil", NINES, -NINES), ("pass", NINES, -NINES)])
        self.assertEqual(read_text(f"net {nines} {nines}-{nines}"), [("net", NINES, [(NINES, NINES)])])
        self.check_bad("state 9" + nines, "spoil 0 9" + nines, "spoil 9" + nines + " 0", "net 9" + nines, "far 9" + nines,
                       f"net 1 9{nines}-0", f"net 1 0-9{nines}", "turn -9" + nines, f"table 9{nines} 2 one 0 0")

    def test_three_hundred_words(self):
        self.assertEqual(read_text("state" + " 5" * 300), [("state", [5] * 300)])
        self.assertEqual(read_text("net 2" + " 0-1" * 300), [("net", 2, [(0, 1)] * 300)])

    def test_a_word_too_few(self):
        self.check_bad("net", "pass", "pass 3", "far", "grow", "table", "table 2", "table 2 2", "table 2 2 none",
                       "table 2 2 none 0", "spoil", "spoil 1")

    def test_a_word_too_many(self):
        self.check_bad("pass 3 4 5", "paint 0", "paint paint", "far 0 0", "grow 0 0", "table 2 2 none 0 0 0", "spoil 0 1 2",
                       "may 0", "measure 0", "look 0", "look many many", "look many 1", "look look", "may may")

    def test_a_word_of_another_kind(self):
        self.check_bad("net 0-1", "net 3 1", "net 3 0-1 2", "net a", "net 3 a-b", "pass a 4", "pass 3 b", "count a", "far 0-1",
                       "far a", "lead 1 b", "grow +1", "state 1 x", "state 1-2", "turn a", "turn -", "turn :", "spoil 0 x",
                       "spoil x 0", "spoil 0-1 2", "look few", "look None", "look True", "state calm", "table a 2 none 0 0",
                       "table 2 b none 0 0")

    def test_numbers_in_lines(self):
        for bad in ("00", "01", "-0", "-01", "+1", "1_0", "-", "--1"):
            self.check_bad(f"state {bad}", f"state 1 {bad} 2", f"turn {bad}", f"count {bad}", f"lead {bad}", f"far {bad}",
                           f"grow {bad}", f"net {bad}", f"net {bad} 0-1", f"pass {bad} 3", f"pass 3 {bad}", f"spoil {bad} 3",
                           f"spoil 3 {bad}", f"table {bad} 2 none 0 0", f"table 2 {bad} none 0 0")

    def test_ways(self):
        self.assertEqual(read_text("net 2 0-1 10-0 0-0 9-123"), [("net", 2, [(0, 1), (10, 0), (0, 0), (9, 123)])])
        for bad in ("-1-2", "1--2", "-1--2", "-1", "1-", "-", "--", "1", "01-2", "1-02", "00-1", "0-00", "1-2-3", "+1-2",
                    "1-+2", "1_0-2", "a-b", "1:2", "1-2,", "(1-2)", "1-a"):
            self.check_bad(f"net 3 {bad}", f"net 3 0-1 {bad}", f"net 3 {bad} 0-1")
        self.check_bad("net 3 0 -1", "net 3 0- 1", "net 3 0 - 1")

    def test_tables(self):
        for length in (1, 2, 8, 27, 63, 64):
            figures = ("0123456789" * 7)[:length]
            told = [at % 10 for at in range(length)]
            self.assertEqual(read_text(f"table 3 2 one {figures} 7"), [("table", 3, 2, "one", told, [7])])
            self.assertEqual(read_text(f"table 3 2 none 00 {figures}"), [("table", 3, 2, "none", [0, 0], told)])
        self.check_bad("table 3 2 one " + "0" * 65 + " 0", "table 3 2 one 0 " + "0" * 65, "table 3 2 one " + "1" * 300 + " 0",
                       "table 3 2 one  0", "table 3 2 one 0 ")
        for bad in ("a", "0a", "a0", "-1", "1-", "0_1", "+0", "0,1", "0\t", ".", "none", "[0]"):
            self.check_bad(f"table 3 2 one {bad} 0", f"table 3 2 one 0 {bad}")

    def test_the_word_of_a_table(self):
        for bad in ("two", "None", "NONE", "One", "ONE", "on", "onee", "non", "nones", "0", "1", "-", "one,none", "none\t"):
            self.check_bad(f"table 3 2 {bad} 0 0")

    def test_blanks(self):
        for line in LINES:
            self.check_bad(" " + line, line + " ", "  " + line, line + "  ")
            if " " in line:
                self.check_bad(line.replace(" ", "  "), line.replace(" ", "  ", 1), line.replace(" ", "", 1))
        self.check_bad(" ", "  ", "\n ", " \n")

    def test_tabs(self):
        for line in LINES:
            self.check_bad("\t" + line, line + "\t", line + "\t0", line + " \t")
            if " " in line:
                self.check_bad(line.replace(" ", "\t"), line.replace(" ", "\t", 1), line.replace(" ", " \t", 1))
        self.check_bad("\t", "\t\t")

    def test_empty_lines(self):
        for line in LINES:
            self.check_bad("\n" + line, line + "\n\n" + line, line + "\n", line + "\n\n", "\n" + line + "\n")
        self.check_bad("\n", "\n\n", "\n\n\n")

    def test_the_text_without_signs(self):
        self.check_bad("")

    def test_other_words(self):
        self.check_bad("ring 3", "line 3", "nets 3", "ne 3", "colour", "painted", "stat 0", "states 0", "turned 0", "mays",
                       "measur", "looks", "many", "least 0", "down", "rule", "calm", "wild", "-", "0", "1 2", ":", "#", "~",
                       "pass3 4", "pass,3,4", "run 0", "mend 0 0", "none", "one")

    def test_words_in_capitals(self):
        for line in LINES:
            self.check_bad(line.upper(), line[0].upper() + line[1:])
        self.check_bad("look MANY", "look Many", "lOOK")

    def test_a_wrong_line_first_in_the_middle_and_last(self):
        lines = list(LINES)
        for bad in ("may 0", "State 1", "", "net", "spoil 0", "state 01"):
            for place in (0, 9, len(lines)):
                self.check_bad("\n".join(lines[:place] + [bad] + lines[place:]))

    def test_drawn_texts_by_the_words(self):
        draw = random.Random(32)
        kept = 0
        for turn in range(6000):
            text = "\n".join(draw.choice(list(LINES)) for line in range(draw.randint(1, 2)))
            for change in range(draw.randint(0, 2)):
                place = draw.randint(0, len(text))
                text = text[:place] + draw.choice(["", " ", "-", "0", "1", "\n", "\t", "a", " 0"]) + text[
                    place + draw.randint(0, 1):]
            if is_text(text):
                kept += 1
                self.assertEqual("\n".join(written(told) for told in read_text(text)), text)
            else:
                self.check_bad(text)
        self.assertTrue(2000 < kept < 5000, kept)

    def test_lists_are_the_askers_own(self):
        check_own(self, read_text, "\n".join(LINES))
        check_own(self, read_text, "state\nturn\ncount\nlead\nnet 1\nstate\nstate 1 1\nstate 1 1\ntable 2 2 one 0 0")
        check_own(self, read_number, "-12")


def written(told):
    """The line that a tuple was read from."""
    words = [told[0]]
    for one in told[1:]:
        if told[0] == "look":
            words += ["many"] if one else []
        elif told[0] == "table" and isinstance(one, list):
            words.append("".join(str(number) for number in one))
        elif isinstance(one, list):
            words += [f"{part[0]}-{part[1]}" if told[0] == "net" else str(part) for part in one]
        else:
            words.append(str(one))
    return " ".join(words)


if __name__ == "__main__":
    unittest.main()
