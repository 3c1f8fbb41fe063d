import random
import re
import unittest

from leapfit.comparison import first_difference
from leapfit.console import Console
from leapfit.errors import CommandError, DuplicateMoment, NoEvents, NoRule, UnknownMoment, UnknownName
from leapfit.events import event_time
from leapfit.log import Log
from leapfit.notation import format_log, format_rule, parse_log
from leapfit.rules import count
from tests.support import common, fitting_records, random_records, random_rule, same
from tests.test_notation import ENTRY, INTEGER, MOMENT, NO_TEXTS, changed_texts

NAME = "[a-z]{1,12}"
UNTIL = f"(?: until {MOMENT})?"
COMMANDS = [f"count {NAME} {INTEGER}", f"event {NAME} {INTEGER}", f"differ {NAME} {NAME} {INTEGER}", ENTRY,
            f"delete {MOMENT}", "clear", f"rates{UNTIL}", f"best{UNTIL}", f"range {INTEGER}{UNTIL}", f"blame{UNTIL}"]
QUESTIONS = ["rates", "best", "range 3", "range -20", "blame"]


def is_command(line):
    found = re.fullmatch(f"rule {NAME} {INTEGER} {INTEGER} {INTEGER}", line)
    if found is not None:
        p, q, _ = (int(word) for word in found.groups())
        return p >= 0 and q >= 1 and common(p, q) == 1
    return any(re.fullmatch(command, line) for command in COMMANDS)


def rate_text(low, high):
    text = "from 0" if low is None else "above %d/%d" % low
    return text if high is None else text + " below %d/%d" % high


def answer(log, question, until=None):
    """The text that the console should return, by [90] and the answers of the log."""
    word, *rest = question.split(" ")
    if word == "blame":
        found = log.blamed(until=until)
        return "none" if found is None else " ".join(found)
    if log.rates(until=until) is None:
        return "none"
    if word == "rates":
        return rate_text(*log.rates(until=until))
    if word == "best":
        return "rule %d %d %d" % log.least_rule(until=until)
    return " to ".join("any" if bound is None else str(bound) for bound in log.count_range(int(rest[0]), until=until))


def random_lines(source, number, size=1):
    """The lines of a log in any order."""
    moments = [moment * size for moment in source.sample(range(3 * number + 1), number)]
    records = fitting_records(source, number, random_rule(source, 9 * size), 12 * size, source.choice((0, 2)))
    if source.random() < 0.7:
        records[:2] = random_records(source, min(number, 2), 9 * size, 9 * size)
    lines = []
    for moment, (word, t, n) in zip(moments, records):
        what = source.choice((f"reports {word} {n} at {t}",) * 4 + ("is trusted", "is distrusted"))
        lines.append(f"{moment} {source.choice(('ann', 'bob', 'cy'))} {what}")
    return lines


class ConsoleTest(unittest.TestCase):
    def check_error(self, console, line, error, name, value):
        before = [console.run(question) for question in QUESTIONS]
        with self.assertRaises(error) as caught:
            console.run(line)
        self.assertIs(type(caught.exception), error)
        self.assertTrue(same(getattr(caught.exception, name), value))
        self.assertEqual([console.run(question) for question in QUESTIONS], before)

    def test_examples(self):
        console = Console()
        first = [console.run("5 ann reports at least 3 at 10"), console.run("6 bob reports at most 0 at 0")]
        self.assertEqual(first + [console.run("rates"), console.run("range 20"), console.run("best until 5")],
                         ["ok", "ok", "above 1/5", "5 to any", "rule 0 1 3"])
        console = Console()
        named = [console.run("rule a 2 5 1"), console.run("rule b 1 3 0")]
        answers = [console.run(line) for line in ("count a -1", "event a 2", "differ a b 0", "blame")]
        self.assertEqual(named + answers, ["ok", "ok", "-1", "5", "2", "none"])
        self.assertEqual(console.run(line="count a -1"), "-1")

    def test_named_rules(self):
        source = random.Random(261)
        console, rules = Console(), {}
        for _ in range(400):
            name = source.choice(("a", "b", "until", "rule", "count", "abcdefghijkl"))
            rule = random_rule(source, source.choice((2, 9, 10 ** 90)))
            if source.random() < 0.3:
                rule = (0, 1, rule[2])
            self.assertEqual(console.run(f"rule {name} {rule[0]} {rule[1]} {rule[2]}"), "ok")
            rules[name] = rule
            other = source.choice(sorted(rules))
            for number in (0, -7, source.randint(-10 ** 90, 10 ** 90)):
                self.assertEqual(console.run(f"count {other} {number}"), str(count(rules[other], number)))
                found = first_difference(rules[name], rules[other], number)
                self.assertEqual(console.run(f"differ {name} {other} {number}"),
                                 "never" if found is None else str(found))
                self.assertEqual(console.run(f"event {other} {number}"), self.event(rules[other], number))

    def event(self, rule, number):
        try:
            return str(event_time(rule, number))
        except NoEvents:
            self.assertEqual(rule[0], 0)
            return "none"

    def test_never_and_none(self):
        console = Console()
        for line in ("rule a 1 3 0", "rule b 1 3 0", "rule flat 0 1 7"):
            console.run(line)
        self.assertEqual([console.run(line) for line in ("differ a b 5", "differ a a -9", "event flat 7", "differ a flat 0",
                                                         "differ flat a 23")],
                         ["never", "never", "none", "0", "24"])

    def test_long_integers(self):
        console = Console()
        long = "9" * 200
        self.assertEqual(console.run(f"rule a {long} 1 -{long}"), "ok")
        self.assertEqual(console.run(f"count a {long}"), str(int(long) ** 2 - int(long)))
        self.assertEqual(console.run(f"{long} ann reports at least {long} at -{long}"), "ok")
        self.assertEqual(console.run(f"range {long}"), f"{long} to any")
        for line in (f"count a {long}9", f"rule a 1{long} 1 0", f"{long}0 ann is trusted", f"delete 1{long}",
                     f"rates until {long}1", f"range -1{long}"):
            self.check_error(console, line, CommandError, "line", line)
        self.assertEqual(console.run(f"delete {long}"), "ok")

    def test_log(self):
        source = random.Random(262)
        for number in (1, 3, 8, 15):
            for size in (1, 1, 1, 10 ** 60):
                self.check_log(source, random_lines(source, number, size))

    def check_log(self, source, lines):
        console = Console()
        for at, line in enumerate(lines):
            self.assertEqual(console.run(line), "ok")
            log = parse_log("\n".join(lines[:at + 1]))
            for question in QUESTIONS:
                self.assertEqual(console.run(question), answer(log, question), (lines, question))
        for until in (0, *(int(line.split(" ")[0]) for line in lines), 10 ** 100):
            for question in QUESTIONS:
                self.assertEqual(console.run(f"{question} until {until}"), answer(log, question, until))
        for line in source.sample(lines, len(lines) // 2):
            moment = int(line.split(" ")[0])
            self.assertEqual(console.run(f"delete {moment}"), "ok")
            log.delete(moment)
            self.assertEqual([console.run(question) for question in QUESTIONS],
                             [answer(log, question) for question in QUESTIONS])
            self.check_error(console, f"delete {moment}", UnknownMoment, "value", moment)
        self.assertEqual(console.run("clear"), "ok")
        self.assertEqual([console.run(question) for question in QUESTIONS],
                         [answer(Log(), question) for question in QUESTIONS])

    def test_answers(self):
        console = Console()
        self.assertEqual([console.run(question) for question in QUESTIONS],
                         ["from 0", "rule 0 1 0", "any to any", "any to any", "none"])
        console.run("3 ann reports at least 0 at 0")
        self.assertEqual([console.run(line) for line in ("rates", "range 0", "range -1")], ["from 0", "0 to any", "any to any"])
        console.run("5 bob reports at most 1 at 4")
        self.assertEqual([console.run(line) for line in ("rates", "range 10", "range -10", "rates until 4")],
                         ["from 0 below 1/2", "0 to 4", "-5 to 1", "from 0"])
        console.run("4 cy reports at least 3 at 10")
        self.assertEqual([console.run(line) for line in ("rates", "rates until 3", "rates until 5", "best", "blame")],
                         ["above 1/6 below 1/2", "from 0", "above 1/6 below 1/2", "rule 1 3 0", "none"])
        console.run("9 dan reports at most 2 at 11")
        self.assertEqual([console.run(line) for line in ("rates", "best", "range 7", "blame", "blame until 8")],
                         ["none", "none", "none", "cy dan", "none"])
        console.run("10 dan is distrusted")
        self.assertEqual([console.run(line) for line in ("best", "best until 9", "blame")], ["rule 1 3 0", "none", "none"])
        console.run("11 dan is trusted")
        self.assertEqual(console.run("blame"), "cy dan")

    def test_a_written_log_line_by_line(self):
        source = random.Random(263)
        for _ in range(20):
            log = parse_log("\n".join(random_lines(source, 12)))
            console = Console()
            for line in format_log(log).split("\n"):
                console.run(line)
            self.assertEqual([console.run(question) for question in QUESTIONS],
                             [answer(log, question) for question in QUESTIONS])
            try:
                self.assertEqual(console.run("best"), format_rule(log.least_rule()))
            except NoRule:
                self.assertEqual(console.run("best"), "none")

    def test_two_consoles_share_nothing(self):
        first, second = Console(), Console()
        first.run("rule a 2 5 1")
        first.run("5 ann reports at least 3 at 10")
        self.check_error(second, "count a 1", UnknownName, "value", "a")
        self.assertEqual(second.run("range 10"), "any to any")
        second.run("rule a 1 1 0")
        second.run("5 bob is trusted")
        second.run("clear")
        self.assertEqual([first.run("count a 10"), first.run("range 10")], ["4", "3 to any"])

    def test_clear_keeps_the_rules(self):
        console = Console()
        console.run("rule a 2 5 1")
        console.run("5 ann is trusted")
        console.run("clear")
        self.assertEqual(console.run("count a 10"), "4")
        self.assertEqual(console.run("5 ann is trusted"), "ok")

    def test_unknown_names(self):
        console = Console()
        console.run("rule a 2 5 1")
        for line, name in (("count b 1", "b"), ("event x 1", "x"), ("differ a b 0", "b"), ("differ b a 0", "b"),
                           ("differ c b 0", "c"), ("count ann 0", "ann"), ("differ b b 0", "b")):
            self.check_error(console, line, UnknownName, "value", name)

    def test_moments(self):
        console = Console()
        console.run("5 ann reports at least 3 at 10")
        console.run("0 ann is trusted")
        for line, moment in (("5 bob is trusted", 5), ("5 ann reports at least 3 at 10", 5), ("0 z is distrusted", 0)):
            self.check_error(console, line, DuplicateMoment, "value", moment)
        for line, moment in (("delete 4", 4), ("delete 1", 1), ("delete 6", 6)):
            self.check_error(console, line, UnknownMoment, "value", moment)
        self.assertEqual([console.run("delete 5"), console.run("5 bob is trusted"), console.run("range 10")],
                         ["ok", "ok", "any to any"])

    def test_lines_that_are_no_commands(self):
        console = Console()
        console.run("rule a 2 5 1")
        console.run("5 ann reports at least 3 at 10")
        for line in ("", " ", "\n", "rule", "rule a", "rule a 1", "rule a 1 2", "rule a 1 2 3 4", "rule a 2 4 1",
                     "rule a 0 2 0", "rule a -1 2 0", "rule a 1 0 0", "rule A 1 2 0", "rule a1 1 2 0",
                     "rule abcdefghijklm 1 2 0", "rule 1 2 0", "rule  a 1 2 0", "rule a 1 2 0 ", " rule a 1 2 0",
                     "Rule a 1 2 0", "rule a 01 2 0", "rule a 1 2 -0", "rule a +1 2 0", "rule a 1 2 0 until 3",
                     "count a", "count a x", "count a 1 2", "count 1", "count a 1 until 5", "count A 1", "count x 01",
                     "event a", "event a 1 1", "differ a a", "differ a 1", "differ a a a", "differ a a 1 1", "differ a a 01",
                     "delete", "delete -1", "delete x", "delete 5 5", "delete 05", "delete a", "delete 5 until 5",
                     "clear 5", "clear until 5", "clear ", "Clear", "rates 5", "rates until", "rates until x",
                     "rates until -1", "rates until 05", "rates until 5 until 5", "rates until until 5", "rates  until 5",
                     "rates until 5 ", "rates until  5", "rates Until 5", "best 5", "best until", "best until -0",
                     "range", "range until 5", "range x", "range 5 5", "range 5 until", "range 5 until -5", "range 05",
                     "blame ann", "blame until", "blame until 5 5", "until 5", "5", "5 ann", "5 ann is", "6 ann is trusted ",
                     "-6 ann is trusted", "06 ann is trusted", "6 Ann is trusted", "6 ann reports at least 3 at",
                     "6 ann is trusted until 7", "at least 3 at 0", "exit", "help", "rates\n", "rates\nbest", "rates\tuntil 5",
                     "5 ann is trusted\n6 ann is trusted", "rates until \u0665", "range \u00b2"):
            self.assertFalse(is_command(line), line)
            self.check_error(console, line, CommandError, "line", line)
        for value in NO_TEXTS:
            self.check_error(console, value, CommandError, "line", value)
        self.assertEqual(console.run("count a 10"), "4")

    def test_one_change(self):
        source = random.Random(264)
        seen = {True: 0, False: 0}
        lines = ["rule a 2 5 1", "count a -31", "event a 20", "differ a b 7", "7 bob reports at most 12 at -4",
                 "8 cy is distrusted", "9 cy is trusted", "delete 5", "clear", "rates", "best until 12", "range -8 until 9",
                 "range 15", "blame until 30", "rates until 0", "blame", "best"]
        for line in lines:
            for changed in changed_texts(source, line, 25):
                right = is_command(changed)
                seen[right] += 1
                self.check_changed(changed, right)
        self.assertGreater(min(seen.values()), 150)

    def check_changed(self, line, right):
        console = Console()
        for other in ("rule a 2 5 1", "rule b 1 3 0", "5 ann reports at least 3 at 10", "6 bob reports at most 9 at 12"):
            console.run(other)
        if not right:
            self.check_error(console, line, CommandError, "line", line)
            return
        try:
            self.assertIs(type(console.run(line)), str)
        except (UnknownName, UnknownMoment, DuplicateMoment) as error:
            self.assertIn(str(error.value), re.split(" ", line))


if __name__ == "__main__":
    unittest.main()
