"""Promises 7 and 8 of the fourth stage: texts and pictures."""

import re
import unittest
from itertools import product

from faceabout import errors, texts
from faceabout.rings import right_joints
from faceabout.rows import Row, onward
from faceabout.texts import picture, read_row, read_turns, row_text, turns_text
from tests.looks import framed, is_right
from tests.samples import HUGE, Agreeable, all_waggons, integers_outside, no_integers, plain, refused
from tests.yard import drawn, many_kinds

PLACE = "(?:0|[1-9][0-9]?)"
ROW_BEGUN = re.compile(r"(?:(?:[+-][1-9][0-9]? )*[+-](?:[1-9][0-9]?)?|(?:[+-][1-9][0-9]? )*)")
ROW_WHOLE = re.compile(r"(?:[+-][1-9][0-9]?(?: [+-][1-9][0-9]?)*)?")
TURNS_BEGUN = re.compile(rf"(?:{PLACE}-{PLACE}, )*(?:{PLACE}(?:-(?:{PLACE},?)?)?)?")
TURNS_WHOLE = re.compile(rf"(?:{PLACE}-{PLACE}(?:, {PLACE}-{PLACE})*)?")
SIGNS = "+-, 0129=[>ax"


def fault(text, begun, whole):
    """Where a text does not go on, by the texts that can be begun so; None if it is whole."""
    for many in range(1, len(text) + 1):
        if not begun.fullmatch(text[:many]):
            return many - 1
    return None if whole.fullmatch(text) else len(text)


def row_fault(text):
    return fault(text, ROW_BEGUN, ROW_WHOLE)


def turns_fault(text):
    """As for rows, and where a turning ends whose second number is less than the first one."""
    found = fault(text, TURNS_BEGUN, TURNS_WHOLE)
    for match in re.finditer(r"([0-9]+)-(0|[1-9][0-9]?)", text):
        if found is not None and match.end() > found:
            break
        if int(match[2]) < int(match[1]):
            return match.end()
    return found


def turns_read(text):
    return tuple(tuple(int(number) for number in each.split("-")) for each in text.split(", ") if each)


def spoilt(text, signs=SIGNS):
    """The text with each of its characters changed, left out, doubled, something put in, and cut off."""
    found = [text[:at] for at in range(len(text))] + [text[at:] for at in range(len(text) + 1)]
    for at in range(len(text) + 1):
        found += [text[:at] + sign + text[at:] for sign in signs]
        if at < len(text):
            found += [text[:at] + sign + text[at + 1:] for sign in signs] + [text[:at] + text[at + 1:]]
    return found


def drawn_turns(many):
    """A row of so many turnings with numbers of one and of two figures."""
    found = []
    for at in range(many):
        first = (7, 0, 9, 10, 99, 42, 3)[at % 7]
        found.append((first, min(99, first + (0, 1, 9, 50, 3, 99)[at % 6])))
    return found


class Written(unittest.TestCase):
    def test_rows(self):
        self.assertEqual(row_text(Row([])), "")
        self.assertEqual(row_text(Row([1])), "+1")
        self.assertEqual(row_text(row=Row([1, -3, 2])), "+1 -3 +2")
        self.assertEqual(row_text(onward(11)), "+1 +2 +3 +4 +5 +6 +7 +8 +9 +10 +11")
        self.assertEqual(row_text(onward(12).backward())[:11], "-12 -11 -10")
        for waggons in many_kinds():
            expected = " ".join(("+" if number > 0 else "-") + str(abs(number)) for number in waggons)
            self.assertEqual(row_text(Row(waggons)), expected)

    def test_turns(self):
        self.assertEqual(turns_text([]), "")
        self.assertEqual(turns_text(()), "")
        self.assertEqual(turns_text([(0, 2)]), "0-2")
        self.assertEqual(turns_text(turnings=((0, 2), (10, 99), (9, 9), (0, 0))), "0-2, 10-99, 9-9, 0-0")
        for many in (1, 2, 10, 100, 2000):
            turnings = drawn_turns(many)
            expected = ", ".join(str(first) + "-" + str(last) for first, last in turnings)
            self.assertEqual(turns_text(turnings), expected)
            self.assertEqual(turns_text(tuple(turnings)), expected)

    def test_all_pairs(self):
        for first in range(100):
            for last in range(100):
                if first <= last:
                    self.assertEqual(turns_text([(first, last)]), str(first) + "-" + str(last))
                else:
                    refused(self, errors.BadTurn, "place", 0, turns_text, [(first, last)])

    def test_turns_refused(self):
        for value in no_integers() + [0, 1, HUGE, "0-1", {(0, 1): 1}, {(0, 1)}]:
            if not isinstance(value, (list, tuple)):
                refused(self, errors.BadTurn, "place", None, turns_text, value)
                refused(self, errors.BadTurn, "place", None, turns_text, turnings=value)
        wrong = [value for value in no_integers() if not (type(value) is tuple and value == (0, 1))]
        wrong += [0, 1, (), (0,), (0, 0, 0), [0, 1], (1, 0), (100, 100), (0, 100), (99, 100), (-1, 0), (-1, -1)]
        wrong += [(True, 1), (0, True), (False, False), (0, None), ("0", "1"), (0, Agreeable()), (0, HUGE), (-HUGE, 0)]
        wrong += [(0, value) for value in integers_outside(0, 99)] + ["0-1", ((0, 1),), {0: 0, 1: 1}]
        for value in wrong:
            refused(self, errors.BadTurn, "place", 0, turns_text, [value])
            refused(self, errors.BadTurn, "place", 1, turns_text, ((0, 99), value, None))
            refused(self, errors.BadTurn, "place", 3, turns_text, [(0, 0)] * 3 + [value])

    def test_arguments_are_not_changed(self):
        turnings = [(0, 2), (1, 1)]
        self.assertEqual(turns_text(turnings), turns_text(turnings))
        self.assertEqual(turnings, [(0, 2), (1, 1)])


class ReadRow(unittest.TestCase):
    def test_what_is_written_is_read_back(self):
        for waggons in many_kinds() + [waggons for many in range(4) for waggons in all_waggons(many)]:
            row = Row(waggons)
            told = read_row(row_text(row))
            self.assertIs(type(told), Row)
            self.assertEqual(told, row)
        self.assertEqual(read_row(text="+2 -1"), Row([2, -1]))
        self.assertEqual(read_row(""), Row([]))

    def test_by_hand(self):
        for text, place in [
                (" ", 0), ("1", 0), ("+", 1), ("-", 1), ("+0", 1), ("+01", 1), ("+1 ", 3), ("+1 +", 4), ("+1  +2", 3),
                ("+1,+2", 2), ("+1+2", 2), ("+123", 3), ("+1 2", 3), ("+1 -", 4), ("-1 -02", 4), ("+1 +2 ", 6),
                ("+10 -100", 7), ("x", 0), ("+x", 1), ("+1x", 2), ("+1\n", 2), ("++1", 1), ("+-1", 1), ("\n", 0),
                ("+1 +2x", 5), ("\u00b2", 0), ("+\u00b2", 1), ("+1\u0661", 2), ("+\u0661", 1)]:
            refused(self, errors.BadText, "place", place, read_row, text)

    def test_all_short_texts(self):
        for many in range(7):
            for signs in product("+- 019", repeat=many):
                self.check("".join(signs))

    def check(self, text):
        place = row_fault(text)
        if place is not None:
            refused(self, errors.BadText, "place", place, read_row, text)
            return
        waggons = [int(each) for each in text.split()]
        wrong = [at for at, number in enumerate(waggons)
                 if abs(number) > len(waggons) or abs(number) in [abs(each) for each in waggons[:at]]]
        if wrong and len(waggons) < 25:
            refused(self, errors.BadRow, "place", wrong[0], read_row, text)
        elif len(waggons) < 25:
            self.assertEqual(read_row(text).waggons, tuple(waggons))
        else:
            refused(self, errors.TooGreat, "most", 24, read_row, text)

    def test_spoilt_texts_of_every_length(self):
        for many in range(25):
            for text in spoilt(row_text(Row(drawn(1, many)))):
                self.check(text)

    def test_errors_of_rows_behind_a_right_reading(self):
        refused(self, errors.BadRow, "place", 1, read_row, "+1 -1")
        refused(self, errors.BadRow, "place", 0, read_row, "+2")
        refused(self, errors.BadRow, "place", 1, read_row, "-1 +99 +1")
        refused(self, errors.TooGreat, "most", 24, read_row, " ".join(["+1"] * 25))
        refused(self, errors.TooGreat, "most", 24, read_row, " ".join(["+" + str(at) for at in range(1, 26)]))
        refused(self, errors.BadText, "place", 6, read_row, "+1 +1 ")
        refused(self, errors.BadText, "place", 2, read_row, "+9x")
        refused(self, errors.BadText, "place", 75, read_row, " ".join(["+1"] * 25) + " ")

    def test_no_string(self):
        for value in no_integers() + [0, 1, HUGE, ["+1"], ("+1",), b"+1", {"+1": 1}]:
            if not isinstance(value, str):
                for call in (read_row, read_turns):
                    refused(self, errors.BadText, "place", None, call, value)
                    refused(self, errors.BadText, "place", None, call, text=value)


class ReadTurns(unittest.TestCase):
    def test_what_is_written_is_read_back(self):
        for many in (0, 1, 2, 3, 10, 100, 2000):
            turnings = tuple(drawn_turns(many))
            told = read_turns(turns_text(turnings))
            self.assertEqual(told, turnings)
            self.assertTrue(plain(told))
        for first in range(100):
            for last in range(first, 100):
                self.assertEqual(read_turns(turns_text([(first, last)])), ((first, last),))
        self.assertEqual(read_turns(text="0-2, 10-99"), ((0, 2), (10, 99)))
        self.assertEqual(read_turns(""), ())

    def test_by_hand(self):
        for text, place in [
                (" ", 0), ("0", 1), ("0-", 2), ("-", 0), ("-0", 0), ("00-1", 1), ("0-00", 3), ("01-2", 1), ("1-02", 3),
                ("0-1,", 4), ("0-1, ", 5), ("0-1,0-2", 4), ("0-1 0-2", 3), ("0-1 ,0-2", 3), ("0-1,  0-2", 5),
                ("0--1", 2), ("0-1-2", 3), ("100-101", 2), ("10-100", 5), ("+0-1", 0), ("a", 0), ("0-a", 2), ("0-1a", 3),
                ("0-1, 3", 6), ("0-1, 3-", 7), ("0-1, a", 5), ("0-1\n", 3), ("0\u0661-2", 1), ("\u0661-2", 0)]:
            refused(self, errors.BadText, "place", place, read_turns, text)

    def test_second_number_less_than_the_first_one(self):
        for text, place in [
                ("1-0", 3), ("5-2", 3), ("12-5", 4), ("12-1", 4), ("50-20", 5), ("99-98", 5), ("5-2, 0-1", 3),
                ("5-2x", 3), ("50-20x", 5), ("50-200", 5), ("0-1, 9-8, 1-0", 8), ("0-1, 9-8x", 8), ("12-05", 4),
                ("5-4,", 3), ("10-9, ", 4)]:
            refused(self, errors.BadText, "place", place, read_turns, text)
        self.assertEqual(read_turns("5-23"), ((5, 23),))
        for first in range(100):
            for last in range(first):
                text = str(first) + "-" + str(last)
                refused(self, errors.BadText, "place", len(text), read_turns, text)
                refused(self, errors.BadText, "place", len(text) + 5, read_turns, "0-9, " + text + ", 1-1")

    def check(self, text):
        place = turns_fault(text)
        if place is None:
            self.assertEqual(read_turns(text), turns_read(text))
        else:
            refused(self, errors.BadText, "place", place, read_turns, text)

    def test_all_short_texts(self):
        for many in range(7):
            for signs in product("-, 012", repeat=many):
                self.check("".join(signs))

    def test_all_short_texts_behind_a_turning(self):
        for many in range(6):
            for signs in product("-, 09", repeat=many):
                self.check("3-14" + "".join(signs))

    def test_spoilt_texts(self):
        for many in (1, 2, 7, 14):
            for text in spoilt(turns_text(drawn_turns(many))):
                self.check(text)


class Pictures(unittest.TestCase):
    def test_by_hand(self):
        self.assertEqual(picture(Row([])), "0=1")
        self.assertEqual(picture(Row([1])), "0=[1>=2")
        self.assertEqual(picture(Row([-1])), "0 <1] 2")
        # The document's row, where 0 and 1 are at a right joint.
        self.assertEqual(picture(Row([1, -3, 2])), "0=[1> <3] [2> 4")
        self.assertEqual(picture(row=Row([2, 1])), "0 [2> [1> 3")
        self.assertEqual(picture(Row([3, 4, -2, -1])), "0 [3>=[4> <2]=<1] 5")
        self.assertEqual(picture(onward(10))[-11:], "[9>=[10>=11")
        self.assertEqual(picture(onward(24).backward())[:12], "0 <24]=<23]=")

    def test_of_every_length(self):
        for waggons in many_kinds() + [waggons for many in range(4) for waggons in all_waggons(many)]:
            told = picture(Row(waggons))
            pieces = re.split("[ =]", told)
            expected = ["0"] + [f"[{number}>" if number > 0 else f"<{-number}]" for number in waggons]
            self.assertEqual(pieces, expected + [str(len(waggons) + 1)])
            ties = re.findall("[ =]", told)
            self.assertEqual(ties, ["=" if is_right(waggons, at) else " " for at in range(len(waggons) + 1)])
            self.assertEqual(len(ties), len(framed(waggons)) - 1)
            right = tuple(at for at, tie in enumerate(ties) if tie == "=")
            self.assertEqual(right, right_joints(Row(waggons)))

    def test_defined_in_this_file(self):
        for name in ("row_text", "turns_text", "read_row", "read_turns", "picture"):
            self.assertEqual(getattr(texts, name).__module__, "faceabout.texts")


if __name__ == "__main__":
    unittest.main()
