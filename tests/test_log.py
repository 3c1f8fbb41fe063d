import copy
import itertools
import random
import unittest

from leapfit.conflicts import is_conflict
from leapfit.cycles import least_rule
from leapfit.errors import DuplicateMoment, InvalidNumber, InvalidRecord, InvalidWitness, NoRule, UnknownMoment
from leapfit.fitting import rates
from leapfit.forecasts import count_range
from leapfit.log import Log
from tests.support import (CONFLICTING, FAR, FAR_RULES, NO_INTEGERS, NO_RECORDS, NO_WITNESSES, RECORDS, WRONG_INTEGERS,
                           fitting_records, fits_some, random_records, random_rule, same)

WITNESSES = ["ann", "bob", "cy", "z", "abcdefghijkl"]
NO_MOMENTS = NO_INTEGERS + [-1, -FAR]


def log_of(entries):
    log = Log()
    for moment, witness, what in entries:
        add(log, moment, witness, what)
    return log


def add(log, moment, witness, what):
    if what is True:
        log.trust(moment, witness)
    elif what is False:
        log.distrust(moment, witness)
    else:
        log.report(moment, witness, what)


def random_entries(source, number, far=False):
    """Entries in any order of moments; some lists of their records conflict."""
    moments = [moment * (10 ** 60 if far else 1) for moment in source.sample(range(3 * number + 1), number)]
    rule = random_rule(source, 10 ** 30 if far else 9)
    times = 10 ** 30 if far else 9
    records = fitting_records(source, number, rule, times, source.choice((0, 2)))
    if source.random() < 0.8:
        records[:number // 3 + 1] = random_records(source, min(number, number // 3 + 1), times, times)
    witnesses = WITNESSES[:source.choice((2, 3, 5))]
    return [(moment, source.choice(witnesses), source.choice((record, record, record, True, False)))
            for moment, record in zip(moments, records)]


def counting(entries, until):
    """The tuples (witness, record) of the records that count, by the words of [71]."""
    used = sorted((entry for entry in entries if until is None or entry[0] <= until), key=lambda entry: entry[0])
    found = []
    for _, witness, what in used:
        said = [other[2] for other in used if other[1] == witness and type(other[2]) is bool]
        if type(what) is tuple and (not said or said[-1]):
            found.append((witness, what))
    return found


def result(call):
    """What a call returns, or the kind of its error."""
    try:
        return call()
    except NoRule:
        return "no rule"


def blamed_ones(reports):
    """For each conflict of [72] the ascending list of its witnesses."""
    found = []
    for size in (2, 3):
        for picked in itertools.combinations(reports, size):
            records = [record for _, record in picked]
            if not fits_some(records) and (size == 2 or all(
                    fits_some(two) for two in itertools.combinations(records, 2))):
                found.append(sorted({witness for witness, _ in picked}))
    return found


def state(log):
    return [log.entries(), len(log), log.records(), log.rates(), log.changes(), log.blamed(), log.suspects()]


class EntriesTest(unittest.TestCase):
    def test_examples(self):
        log = Log()
        self.assertIsNone(log.report(5, "ann", ("at least", 0, 3)))
        self.assertIsNone(log.report(7, "bob", ("at most", 4, 1)))
        self.assertIsNone(log.distrust(9, "bob"))
        self.assertEqual([log.blamed(until=8), log.suspects(until=8), log.changes(), log.records()],
                         [["ann", "bob"], ["ann", "bob"], [(7, False), (9, True)], [("at least", 0, 3)]])
        log = Log()
        log.report(5, "ann", ("at least", 0, 3))
        log.distrust(6, "ann")
        self.assertIsNone(log.trust(8, "ann"))
        self.assertEqual([log.records(until=7), log.records(), log.count_range(0)],
                         [[], [("at least", 0, 3)], (3, None)])

    def test_empty_log(self):
        log = Log()
        self.assertEqual(len(log), 0)
        self.assertEqual([log.entries(), log.records(), log.changes()], [[], [], []])
        self.assertEqual(log.rates(), (None, None))
        self.assertEqual(log.least_rule(), (0, 1, 0))
        self.assertEqual(log.count_range(7), (None, None))
        self.assertIsNone(log.blamed())
        self.assertIsNone(log.suspects())

    def test_keywords(self):
        log = Log()
        log.report(record=("at least", 0, 3), witness="ann", moment=5)
        log.distrust(witness="ann", moment=6)
        log.trust(witness="ann", moment=7)
        self.assertEqual(log.entries(until=None), [(5, "ann", ("at least", 0, 3)), (6, "ann", False), (7, "ann", True)])
        self.assertEqual(log.count_range(until=5, time=2), (3, None))
        log.delete(moment=6)
        self.assertEqual(len(log), 2)

    def test_entries_up_to_any_moment(self):
        source = random.Random(241)
        for number in (0, 1, 7, 30, 200):
            entries = random_entries(source, number)
            log = log_of(entries)
            ordered = sorted(entries, key=lambda entry: entry[0])
            self.assertTrue(same(log.entries(), ordered))
            self.assertEqual(len(log), number)
            for until in (-1, 0, 5, number, 3 * number, FAR):
                self.assertTrue(same(log.entries(until=until), [entry for entry in ordered if entry[0] <= until]))

    def test_moments(self):
        log = Log()
        for moment in (0, 1, 10 ** 299, 7):
            log.report(moment, "ann", RECORDS[0])
        self.assertEqual([entry[0] for entry in log.entries()], [0, 1, 7, 10 ** 299])
        self.assertEqual(len(log.entries(until=0)), 1)

    def test_witnesses(self):
        log = Log()
        for moment, witness in enumerate(("a", "z", "abcdefghijkl", "mnopqrstuvwx", "zzzzzzzzzzzz", "yz")):
            log.report(moment, witness, RECORDS[0])
            log.distrust(moment + 100, witness)
        self.assertEqual(len(log), 12)

    def test_returned_lists_belong_to_the_caller(self):
        log = log_of([(5, "ann", CONFLICTING[0]), (7, "bob", CONFLICTING[1]), (8, "cy", True)])
        before = copy.deepcopy(state(log))
        for call in (log.entries, log.records, log.changes, log.blamed, log.suspects):
            call().clear()
            call().append("x")
        self.assertEqual(state(log), before)
        known = log.entries()
        log.delete(7)
        self.assertEqual(len(known), 3)

    def test_two_logs_share_nothing(self):
        first, second = Log(), Log()
        first.report(5, "ann", RECORDS[0])
        self.assertEqual((len(first), len(second)), (1, 0))
        second.distrust(5, "ann")
        self.assertEqual(first.records(), [RECORDS[0]])


class ErrorsTest(unittest.TestCase):
    def setUp(self):
        self.log = log_of([(5, "ann", CONFLICTING[0]), (1, "bob", CONFLICTING[1]), (0, "cy", False)])
        self.before = copy.deepcopy(state(self.log))

    def check(self, error, name, value, call):
        with self.assertRaises(error) as caught:
            call()
        self.assertIs(type(caught.exception), error)
        self.assertTrue(same(getattr(caught.exception, name), value))
        self.assertEqual(state(self.log), self.before)

    def test_moments(self):
        for value in NO_MOMENTS:
            for witness in ("ann", "", None):
                for record in (RECORDS[0], None):
                    self.check(InvalidNumber, "value", value, lambda: self.log.report(value, witness, record))
                self.check(InvalidNumber, "value", value, lambda: self.log.distrust(value, witness))
                self.check(InvalidNumber, "value", value, lambda: self.log.trust(value, witness))

    def test_witnesses(self):
        for value in NO_WITNESSES:
            for moment in (5, 6):
                for record in (RECORDS[0], None):
                    self.check(InvalidWitness, "value", value, lambda: self.log.report(moment, value, record))
                self.check(InvalidWitness, "value", value, lambda: self.log.distrust(moment, value))
                self.check(InvalidWitness, "value", value, lambda: self.log.trust(moment, value))

    def test_records(self):
        for value in NO_RECORDS + [RECORDS, True, False]:
            for moment in (5, 6):
                self.check(InvalidRecord, "index", 0, lambda: self.log.report(moment, "ann", value))

    def test_moments_that_are_taken(self):
        for moment in (0, 1, 5):
            self.check(DuplicateMoment, "value", moment, lambda: self.log.report(moment, "ann", RECORDS[0]))
            self.check(DuplicateMoment, "value", moment, lambda: self.log.distrust(moment, "dan"))
            self.check(DuplicateMoment, "value", moment, lambda: self.log.trust(moment, "cy"))

    def test_unknown_moments(self):
        for value in [*NO_MOMENTS, "ann", *RECORDS, RECORDS, 2, 4, 6, 10 ** 299, "5", (5,), [5], (5, "ann", RECORDS[0])]:
            self.check(UnknownMoment, "value", value, lambda: self.log.delete(value))

    def test_times(self):
        for error, value in WRONG_INTEGERS:
            self.check(error, "value", value, lambda: self.log.count_range(value))
            self.check(error, "value", value, lambda: self.log.count_range(value, until=0))

    def test_no_rule(self):
        for call in (self.log.least_rule, lambda: self.log.count_range(3)):
            with self.assertRaises(NoRule) as caught:
                call()
            self.assertIs(type(caught.exception), NoRule)
        self.assertIsNone(self.log.rates())
        self.assertEqual(self.log.least_rule(until=4), (0, 1, 1))

    def test_deleted_moments(self):
        self.log.delete(5)
        with self.assertRaises(UnknownMoment):
            self.log.delete(5)
        self.log.report(5, "dan", RECORDS[0])
        self.assertEqual(self.log.entries()[-1], (5, "dan", RECORDS[0]))


class AnswersTest(unittest.TestCase):
    def check_answers(self, log, entries, until):
        reports = counting(entries, until)
        records = [record for _, record in reports]
        self.assertTrue(same(log.records(until=until), records))
        self.assertEqual(log.rates(until=until), rates(records))
        self.assertEqual(result(lambda: log.least_rule(until=until)), result(lambda: least_rule(records)))
        for time in (-3, 0, 10 ** 30):
            self.assertEqual(result(lambda: log.count_range(time, until=until)),
                             result(lambda: count_range(records, time)))
        self.check_blame(log, reports, until)

    def check_blame(self, log, reports, until):
        found, suspects = log.blamed(until=until), log.suspects(until=until)
        records = [record for _, record in reports]
        self.assertEqual(found is None, fits_some(records))
        self.assertEqual(suspects is None, fits_some(records))
        if found is not None:
            self.assertIn(found, blamed_ones(reports))
            right = [witness for witness in sorted({witness for witness, _ in reports})
                     if fits_some([record for other, record in reports if other != witness])]
            self.assertTrue(same(suspects, right), (suspects, right))

    def check_changes(self, log, entries):
        right, fitting = [], True
        for moment in sorted(entry[0] for entry in entries):
            now = log.rates(until=moment) is not None
            if now != fitting:
                right.append((moment, now))
            fitting = now
        self.assertTrue(same(log.changes(), right))
        return len(right)

    def test_small_logs(self):
        source = random.Random(242)
        seen = {}
        for _ in range(150):
            entries = random_entries(source, source.randint(0, 20))
            log = log_of(entries)
            for until in (None, *sorted(entry[0] for entry in entries), -5, 10 ** 40):
                self.check_answers(log, entries, until)
            number = self.check_changes(log, entries)
            seen[number] = seen.get(number, 0) + 1
        self.assertGreater(len(seen), 4, seen)

    def test_far_logs(self):
        source = random.Random(243)
        for _ in range(25):
            entries = random_entries(source, source.randint(5, 20), True)
            log = log_of(entries)
            for until in (None, source.choice(entries)[0], source.choice(entries)[0] + 1):
                self.check_answers(log, entries, until)
            self.check_changes(log, entries)

    def test_any_order_of_the_entries(self):
        source = random.Random(244)
        for _ in range(60):
            entries = random_entries(source, source.randint(2, 20))
            first = log_of(entries)
            source.shuffle(entries)
            second = log_of(entries)
            for until in (None, entries[0][0], entries[1][0]):
                for name in ("entries", "records", "rates", "suspects"):
                    self.assertEqual(getattr(second, name)(until=until), getattr(first, name)(until=until))
                self.assertEqual(result(lambda: second.least_rule(until=until)),
                                 result(lambda: first.least_rule(until=until)))
                self.assertEqual(result(lambda: second.count_range(4, until=until)),
                                 result(lambda: first.count_range(4, until=until)))
                self.check_blame(second, counting(entries, until), until)
            self.assertEqual(second.changes(), first.changes())

    def test_deletions_and_replacements(self):
        source = random.Random(245)
        for _ in range(60):
            entries = random_entries(source, source.randint(4, 16))
            log = log_of(entries)
            for moment, _, _ in entries[:3]:
                log.delete(moment)
            entries[1] = (entries[0][0], "dan", RECORDS[0])
            add(log, *entries[1])
            left = log_of(entries[1:2] + entries[3:])
            self.assertEqual(state(log), state(left))
            for until in (entries[1][0], entries[3][0]):
                self.check_answers(log, entries[1:2] + entries[3:], until)

    def test_distrusted_and_trusted_witnesses(self):
        source = random.Random(246)
        for _ in range(60):
            entries = [entry for entry in random_entries(source, 16) if type(entry[2]) is tuple]
            log = log_of(entries)
            before = state(log)[2:]
            log.distrust(1000, "ann")
            without = log_of([entry for entry in entries if entry[1] != "ann"])
            self.assertEqual(log.records(), without.records())
            self.assertEqual(log.rates(), without.rates())
            self.assertEqual(log.suspects(), without.suspects())
            log.trust(1001, "ann")
            self.assertEqual([log.records(), log.rates()], before[:2])
            self.assertEqual([log.blamed(), log.suspects()], before[3:])
            # What is said later has no effect on answers up to a moment, what is said earlier is overruled.
            self.assertEqual(log.records(until=999), before[0])
            log.report(1002, "ann", RECORDS[0])
            self.assertEqual(log.records(), before[0] + [RECORDS[0]])
            log.distrust(1003, "ann")
            log.report(1004, "ann", RECORDS[0])
            self.assertEqual(log.records(), without.records())

    def test_later_entries_have_no_effect(self):
        source = random.Random(247)
        for _ in range(30):
            entries = sorted(random_entries(source, 16), key=lambda entry: entry[0])
            log = Log()
            known = []
            for moment, witness, what in entries:
                add(log, moment, witness, what)
                known.append((moment, log.records(), log.rates(), log.suspects(), log.entries()))
            for moment, *answers in known:
                self.assertEqual([log.records(until=moment), log.rates(until=moment), log.suspects(until=moment),
                                  log.entries(until=moment)], answers)

    def test_many_witnesses_of_one_conflict(self):
        # Two conflicts without a common witness: nobody is a suspect.
        log = log_of([(1, "ann", ("at least", 0, 3)), (2, "bob", ("at most", 4, 1)),
                      (3, "cy", ("at least", 0, 3)), (4, "dan", ("at most", 4, 1))])
        self.assertEqual(log.suspects(), [])
        self.assertIn(log.blamed(), [["ann", "bob"], ["ann", "dan"], ["bob", "cy"], ["cy", "dan"]])
        # A witness who contradicts herself is blamed once.
        log = log_of([(1, "ann", ("at least", 0, 3)), (2, "ann", ("at most", 4, 1)), (3, "bob", RECORDS[0])])
        self.assertEqual((log.blamed(), log.suspects()), (["ann"], ["ann"]))
        # Three records of which no two conflict.
        log = log_of([(1, "zoe", ("at least", 0, 0)), (2, "ann", ("at most", 5, 1)), (3, "max", ("at least", 10, 6))])
        self.assertEqual((log.blamed(), log.suspects()), (["ann", "max", "zoe"], ["ann", "max", "zoe"]))

    def test_changes(self):
        log = log_of([(3, "ann", CONFLICTING[0]), (5, "bob", CONFLICTING[1]), (8, "ann", False), (9, "ann", True),
                      (12, "cy", False), (13, "bob", False), (15, "bob", False), (17, "bob", True), (18, "cy", RECORDS[0])])
        self.assertEqual(log.changes(), [(5, False), (8, True), (9, False), (13, True), (17, False)])
        log.delete(5)
        self.assertEqual(log.changes(), [])

    def test_200_entries(self):
        source = random.Random(248)
        for rule, times in (((3, 7, 2), 400), (FAR_RULES[0], FAR)):
            records = fitting_records(source, 200, rule, times, 1)
            log = log_of([(moment * 10 ** 290, WITNESSES[moment % 5], record) for moment, record in enumerate(records)])
            self.assertEqual(log.records(), records)
            self.assertEqual(log.changes(), [])
            self.assertEqual(log.least_rule(), least_rule(records))
            log.delete(10 ** 290)
            log.report(10 ** 290, "liar", ("at least", -10 ** 299, 10 ** 299))
            reports = counting(log.entries(), None)
            self.assertIn("liar", log.blamed())
            self.assertEqual(log.suspects(), ["liar"])
            self.assertTrue(any(is_conflict([record for _, record in reports], [1, other]) for other in range(2, 200)))
            self.assertEqual([fitting for _, fitting in log.changes()], [False])


if __name__ == "__main__":
    unittest.main()
