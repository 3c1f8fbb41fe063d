import random
import re
import unittest

from leapfit.errors import DuplicateMoment, InvalidRecord, InvalidRule, ParseError
from leapfit.log import Log
from leapfit.notation import format_log, format_record, format_rule, parse_log, parse_record, parse_rule
from leapfit.rules import shift_rule
from tests.support import (FAR_RULES, NO_INTEGERS, NO_RECORDS, NO_RULES, RECORDS, looks_like_a_rule, random_records,
                           random_rule, same, small_rules)

INTEGER = "(0|-?[1-9][0-9]{0,199})"
MOMENT = "(?:0|[1-9][0-9]{0,199})"
RECORD = f"at (least|most) {INTEGER} at {INTEGER}"
ENTRY = f"({MOMENT}) ([a-z]{{1,12}}) (?:(is trusted)|(is distrusted)|reports {RECORD})"

# Objects that are no texts; bytes and sets are beyond what the document promises, but no reason to fail otherwise.
NO_TEXTS = [value for value in [*NO_INTEGERS, *NO_RECORDS, *NO_RULES] if not isinstance(value, str)] + [
    b"rule 1 2 3", ["rule 1 2 3"], ("at least 3 at 0",), {"rule 1 2 3": 1}, (1, 2, 3), ("at least", 0, 3), 7,
    [("at least", 0, 3)], [[(5, "ann", True)]]]


def rule_in(text):
    """The rule that is written, or None, by the words of [80]."""
    found = re.fullmatch(f"rule {INTEGER} {INTEGER} {INTEGER}", text)
    if found is None:
        return None
    rule = tuple(int(word) for word in found.groups())
    return rule if looks_like_a_rule(rule) else None


def record_in(text):
    found = re.fullmatch(RECORD, text)
    if found is None:
        return None
    return ("at " + found[1], int(found[3]), int(found[2]))


def entry_in(line):
    found = re.fullmatch(ENTRY, line)
    if found is None:
        return None
    moment, witness, trusted, distrusted, word, number, time = found.groups()
    what = True if trusted else False if distrusted else ("at " + word, int(time), int(number))
    return (int(moment), witness, what)


def changed_texts(source, text, number):
    """Texts with one change: a character or a word removed, added, repeated or replaced."""
    signs = "0019-+ \n\t\r.,_axeZ\u00e9\u0660\u00a0\u2003\u00b2\uff11\x0b\x0c\x1c\x85\u2028"
    for _ in range(number):
        at = source.randrange(len(text) + 1)
        sign = source.choice(signs)
        yield text[:at] + sign + text[at:]
        yield text[:at] + sign + text[at + 1:]
        yield text[:at] + text[at + 1:]
        yield text[:at] + text[at:at + 1] * 2 + text[at + 1:]
        words = text.split(" ")
        at = source.randrange(len(words))
        word = source.choice(["0", "-0", "00", "01", "-01", "+1", "1.0", "1e3", "", "--1", "-", "\u0661", "0x1", "1_0",
                              "at", "least", "most", "rule", "is", "trusted", "reports", "9" * 200, "9" * 201,
                              "-" + "9" * 200, "-" + "9" * 201, "0" + "9" * 199, words[at].upper(), " " + words[at],
                              words[at] + "\n", source.choice(words)])
        yield " ".join(words[:at] + [word] + words[at + 1:])
        yield " ".join(words[:at] + words[at + 1:])
        yield " ".join(words[:at] + [word] + words[at:])
        yield " ".join(words[:at] + [words[at]] + words[at:])
    yield from (text + " ", " " + text, text + "\n", "\n" + text, text + "\r", text.upper(), text + text,
                text + "\n" + text, text.replace(" ", "  "), text.replace(" ", "\t"), text.replace(" ", "\u00a0"), "", " ")


class PlainTest(unittest.TestCase):
    def check_parse(self, parse, text, right):
        if right is not None:
            self.assertTrue(same(parse(text), right), text)
            return True
        self.check_error(parse, text, text)
        return False

    def check_error(self, parse, value, line):
        with self.assertRaises(ParseError) as caught:
            parse(value)
        self.assertIs(type(caught.exception), ParseError)
        self.assertTrue(same(caught.exception.line, line))

    def test_examples(self):
        self.check_error(parse_rule, "rule 2 4 1", "rule 2 4 1")
        self.assertEqual([format_record(("at most", -3, 0)), parse_record("at least 7 at 20")],
                         ["at most 0 at -3", ("at least", 20, 7)])
        self.assertEqual(format_rule(rule=(2, 5, -1)), "rule 2 5 -1")
        self.assertEqual(parse_rule(text="rule 2 5 -1"), (2, 5, -1))
        self.assertEqual(format_record(record=("at least", 20, 7)), "at least 7 at 20")
        self.assertEqual(parse_record(text="at most 0 at -3"), ("at most", -3, 0))

    def test_rules(self):
        source = random.Random(251)
        for rule in small_rules(252, 40) + FAR_RULES[:2] + [random_rule(source, 10 ** 90) for _ in range(30)]:
            text = format_rule(rule)
            self.assertEqual(text, "rule %d %d %d" % rule)
            self.assertTrue(same(parse_rule(text), rule))

    def test_records(self):
        source = random.Random(253)
        for times in (0, 9, 10 ** 90):
            for record in random_records(source, 40, times, times):
                text = format_record(record)
                self.assertEqual(text, "%s %d at %d" % (record[0], record[2], record[1]))
                self.assertTrue(same(parse_record(text), record))

    def test_long_integers(self):
        # More than 200 digits are written, but not read.
        for digits, fits in ((199, True), (200, True), (201, False), (300, False), (899, False)):
            number = 10 ** (digits - 1) + 10 ** (digits // 2)
            for sign in (1, -1):
                self.assertEqual(format_rule((1, 1, sign * number)), f"rule 1 1 {sign * number}")
                self.check_parse(parse_rule, f"rule 1 1 {sign * number}", (1, 1, sign * number) if fits else None)
                text = f"at most {sign * number} at {-number}"
                self.assertEqual(format_record(("at most", -number, sign * number)), text)
                self.check_parse(parse_record, text, ("at most", -number, sign * number) if fits else None)

    def test_integers_beyond_what_python_writes(self):
        rule = (1, 1, 0)
        for _ in range(20):
            rule = shift_rule(rule, 10 ** 299, rule[2] * 10 ** 290)
        text = format_rule(rule)
        self.assertGreater(len(text), 5000)
        self.assertTrue(text.startswith("rule 1 1 1000000000"))
        number = 0
        for digit in text.split(" ")[3]:
            number = 10 * number + int(digit)
        self.assertEqual(number, rule[2])
        negative = format_rule((1, 1, -rule[2]))
        self.assertEqual(negative, text.replace("rule 1 1 ", "rule 1 1 -"))

    def test_blocks_of_zeros(self):
        for number in (0, 10 ** 59, 10 ** 60, 10 ** 60 - 1, 10 ** 61 + 7, 10 ** 120, 10 ** 180 + 10 ** 60, 10 ** 199):
            for value in (number, -number):
                self.assertEqual(format_rule((0, 1, value)), f"rule 0 1 {value}")
                self.assertEqual(parse_rule(f"rule 0 1 {value}"), (0, 1, value))

    def test_triples_that_are_no_rules(self):
        for text in ("rule 2 4 1", "rule 0 2 1", "rule 1 0 1", "rule -1 2 0", "rule 1 -2 0", "rule 0 0 0", "rule 3 3 1",
                     "rule 2 5", "rule 2 5 1 0", "rule", "rule ", "rule 2 5 x", "2 5 1", "at least 3 at 0"):
            self.check_error(parse_rule, text, text)

    def test_one_change(self):
        source = random.Random(254)
        seen = {True: 0, False: 0}
        for rule in small_rules(255, 10) + [random_rule(source, 10 ** 90)]:
            for text in changed_texts(source, format_rule(rule), 25):
                seen[self.check_parse(parse_rule, text, rule_in(text))] += 1
        self.assertGreater(min(seen.values()), 100)
        seen = {True: 0, False: 0}
        for record in random_records(source, 15, 20, 20) + random_records(source, 5, 10 ** 90, 10 ** 90):
            for text in changed_texts(source, format_record(record), 25):
                seen[self.check_parse(parse_record, text, record_in(text))] += 1
        self.assertGreater(min(seen.values()), 100)

    def test_other_objects(self):
        for value in NO_TEXTS:
            for parse in (parse_rule, parse_record, parse_log):
                self.check_error(parse, value, value)
        for value in ("", " ", "\n"):
            for parse in (parse_rule, parse_record):
                self.check_error(parse, value, value)

    def test_wrong_arguments(self):
        for value in NO_RULES:
            with self.assertRaises(InvalidRule) as caught:
                format_rule(value)
            self.assertIs(caught.exception.value, value)
        for value in NO_RECORDS + [RECORDS]:
            with self.assertRaises(InvalidRecord) as caught:
                format_record(value)
            self.assertEqual(caught.exception.index, 0)


class LogTest(unittest.TestCase):
    def random_entries(self, source, number, size):
        moments = [moment * size for moment in source.sample(range(5 * number + 1), number)]
        records = random_records(source, number, size, size)
        return [(moment, source.choice(("ann", "z", "abcdefghijkl")), source.choice((record, record, True, False)))
                for moment, record in zip(moments, records)]

    def line(self, entry):
        moment, witness, what = entry
        if type(what) is bool:
            return f"{moment} {witness} is {'trusted' if what else 'distrusted'}"
        return f"{moment} {witness} reports {what[0]} {what[2]} at {what[1]}"

    def test_examples(self):
        text = "7 bob is trusted\n5 ann reports at least 3 at 0"
        self.assertEqual(parse_log(text).entries(), [(5, "ann", ("at least", 0, 3)), (7, "bob", True)])
        self.assertEqual(format_log(parse_log(text)), "5 ann reports at least 3 at 0\n7 bob is trusted")
        self.assertEqual(format_log(log=parse_log(text=text)), format_log(parse_log(text)))

    def test_empty_log(self):
        self.assertEqual(format_log(Log()), "")
        found = parse_log("")
        self.assertIs(type(found), Log)
        self.assertEqual((len(found), found.entries()), (0, []))

    def test_any_order(self):
        source = random.Random(256)
        for number in (1, 2, 9, 40, 200):
            for size in (1, 10 ** 90):
                entries = self.random_entries(source, number, size)
                lines = [self.line(entry) for entry in entries]
                log = parse_log("\n".join(lines))
                ordered = sorted(entries, key=lambda entry: entry[0])
                self.assertTrue(same(log.entries(), ordered))
                self.assertEqual(format_log(log), "\n".join(self.line(entry) for entry in ordered))
                self.assertTrue(same(parse_log(format_log(log)).entries(), ordered))

    def test_long_moments(self):
        log = Log()
        log.trust(10 ** 299, "ann")
        log.report(10 ** 250, "ann", ("at most", -10 ** 280, -10 ** 290))
        self.assertEqual(format_log(log), f"{10 ** 250} ann reports at most {-10 ** 290} at {-10 ** 280}\n"
                                          f"{10 ** 299} ann is trusted")
        self.assertEqual(parse_log("9" * 200 + " ann is trusted").entries(), [(10 ** 200 - 1, "ann", True)])
        self.check_parse_error("9" * 201 + " ann is trusted", "9" * 201 + " ann is trusted")

    def check_parse_error(self, text, line):
        with self.assertRaises(ParseError) as caught:
            parse_log(text)
        self.assertIs(type(caught.exception), ParseError)
        self.assertEqual(caught.exception.line, line)

    def check_log(self, text):
        """The entries, the first wrong line, or the first moment that an earlier line has, by the words of [80]."""
        lines = text.split("\n") if text else []
        entries = [entry_in(line) for line in lines]
        if None in entries:
            self.check_parse_error(text, lines[entries.index(None)])
            return "wrong"
        moments = [entry[0] for entry in entries]
        again = [moment for at, moment in enumerate(moments) if moment in moments[:at]]
        if again:
            with self.assertRaises(DuplicateMoment) as caught:
                parse_log(text)
            self.assertIs(type(caught.exception), DuplicateMoment)
            self.assertEqual(caught.exception.value, again[0])
            return "again"
        self.assertTrue(same(parse_log(text).entries(), sorted(entries, key=lambda entry: entry[0])))
        return "right"

    def test_one_change(self):
        source = random.Random(257)
        seen = {"wrong": 0, "again": 0, "right": 0}
        for number in (1, 2, 3, 4, 5):
            for _ in range(12):
                text = "\n".join(self.line(entry) for entry in self.random_entries(source, number, 1))
                for changed in changed_texts(source, text, 12):
                    seen[self.check_log(changed)] += 1
        self.assertGreater(min(seen.values()), 50, seen)

    def test_lines(self):
        for line in ("5 ann is trusted ", " 5 ann is trusted", "5 ann is  trusted", "5 ann is", "5 ann trusted", "5 ann",
                     "5", "-5 ann is trusted", "05 ann is trusted", "+5 ann is trusted", "-0 ann is trusted",
                     "5 Ann is trusted", "5 abcdefghijklm is trusted", "5  is trusted", "5 ann1 is trusted",
                     "5 ann is trusted 3", "5 ann is Trusted", "5 ann was trusted", "5 ann reports",
                     "5 ann reports at least 3", "5 ann reports at least 3 at", "5 ann reports at least 3 at 0 0",
                     "5 ann report at least 3 at 0", "5 ann reports at last 3 at 0", "5 ann reports least 3 at 0",
                     "5 ann reports at least 3 on 0", "5 ann reports is trusted", "ann is trusted", "5 ann is trusted\r",
                     "5 ann reports at least 03 at 0", "5\tann is trusted", "5 ann is trusted\x0b6 bob is trusted",
                     "5 ann is trusted\u20286 bob is trusted", "5 \u00e4nn is trusted", "rule 1 2 3", "clear"):
            self.check_parse_error(line, line)
            self.check_parse_error("7 bob is trusted\n" + line + "\n8 bob", line)
        for text, line in (("\n", ""), ("5 ann is trusted\n", ""), ("\n5 ann is trusted", ""),
                           ("5 ann is trusted\n\n6 ann is trusted", ""), (" ", " ")):
            self.check_parse_error(text, line)

    def test_wrong_lines_come_before_moments(self):
        twice = "5 ann is trusted\n5 bob is trusted"
        self.check_parse_error(twice + "\nx", "x")
        self.check_parse_error("y\n" + twice + "\nx", "y")
        for text, moment in ((twice, 5), ("6 a is trusted\n5 a is trusted\n5 a is trusted\n6 b is trusted", 5),
                             ("6 a is trusted\n5 a is trusted\n6 a is trusted\n5 b is trusted", 6),
                             ("0 a is trusted\n0 a is trusted", 0)):
            self.assertEqual(self.check_log(text), "again")
            with self.assertRaises(DuplicateMoment) as caught:
                parse_log(text)
            self.assertEqual(caught.exception.value, moment)

    def test_a_changed_log_changes_no_other_one(self):
        text = "5 ann is trusted"
        first, second = parse_log(text), parse_log(text)
        first.delete(5)
        first.report(7, "bob", RECORDS[0])
        self.assertEqual(second.entries(), [(5, "ann", True)])
        self.assertEqual(parse_log(text).entries(), [(5, "ann", True)])
        parse_log("").trust(1, "ann")
        self.assertEqual(len(parse_log("")), 0)


if __name__ == "__main__":
    unittest.main()
