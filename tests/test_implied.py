import copy
import random
import unittest

from leapfit.conflicts import is_conflict
from leapfit.errors import InvalidRecord, NoRule
from leapfit.implied import core, follows, is_answer, opposite
from tests.support import (FAR, FAR_RULES, NO_INTEGERS, NO_RECORDS, WRONG_RECORDS, against, ascending, check_errors,
                           fits_record, fitting_records, formula, interval, looks_like_a_rule, random_records, same,
                           sample_lists, small_rules)

RECORDS = [("at least", 0, 0), ("at least", 10, 6)]
CONFLICTING = [("at least", 0, 3), ("at most", 4, 1)]


def questions(seed, most, number=25):
    """Tuples (records, record) of sample lists and further records, of which many just follow or just do not."""
    source = random.Random(seed)
    for records in sample_lists(seed, most, number):
        times = [time for _, time, _ in records] + [0, source.randint(-60, 60), FAR + 7]
        for _ in range(4):
            time = source.choice(times)
            count = source.choice([number for _, _, number in records] + [0]) + source.randint(-2, 2)
            yield records, (source.choice(("at least", "at most")), time, count)
        if records:
            yield records, records[source.randrange(len(records))]


def core_by_steps(records):
    """The core by [56], with the pairs of [52] for each step."""
    left = list(range(len(records)))
    for index in reversed(range(len(records))):
        others = [other for other in left if other != index]
        if interval([records[other] for other in others] + [against(records[index])]) is None:
            left = others
    return left


class OppositeTest(unittest.TestCase):
    def test_examples(self):
        self.assertEqual(opposite(("at most", 4, 2)), ("at least", 4, 3))
        self.assertEqual(opposite(record=("at least", 4, 3)), ("at most", 4, 2))

    def test_twice(self):
        for records in sample_lists(111, 10, 10):
            for record in records:
                self.assertTrue(same(opposite(record), against(record)))
                self.assertTrue(same(opposite(opposite(record)), record))

    def test_exactly_one_fits(self):
        for rule in small_rules(112, 10) + FAR_RULES:
            for time in (-7, 0, 4, FAR):
                for off in range(-2, 3):
                    for word in ("at least", "at most"):
                        record = (word, time, formula(rule, time) + off)
                        self.assertNotEqual(fits_record(rule, record), fits_record(rule, opposite(record)))

    def test_errors(self):
        check_errors(self, opposite, {"record": RECORDS[0]},
                     {"record": [(InvalidRecord, value, 0) for value in NO_RECORDS]})


class FollowsTest(unittest.TestCase):
    def test_examples(self):
        found = follows([("at least", 0, 0), ("at least", 10, 6)], ("at least", 5, 3))
        self.assertEqual(found, ("follows", [0, 1, 2]))
        self.assertEqual(follows(record=("at least", 5, 3), records=tuple(RECORDS)), found)

    def test_no_records(self):
        for record in (("at least", 5, 3), ("at most", -FAR, FAR)):
            self.check_answer([], record)
            self.assertEqual(follows((), record)[0], "open")

    def test_near_and_far_lists(self):
        seen = {"follows": 0, "open": 0}
        for records, record in questions(113, 40):
            seen[self.check_answer(records, record)] += 1
        self.assertGreater(min(seen.values()), 100)

    def check_answer(self, records, record):
        """Returns the word; the answer shows by itself that it is right."""
        found = follows(records, record)
        self.assertTrue(type(found) is tuple and len(found) == 2)
        word, reason = found
        if word == "follows":
            doubted = [*records, against(record)]
            self.assertTrue(ascending(reason, len(doubted)) and len(reason) in (2, 3), found)
            self.assertIsNone(interval([doubted[index] for index in reason]))
        else:
            self.assertEqual(word, "open")
            self.assertTrue(looks_like_a_rule(reason))
            self.assertTrue(all(fits_record(reason, item) for item in records))
            self.assertFalse(fits_record(reason, record))
        self.assertIs(is_answer(records, record, found), True)
        return word

    def test_small_steps(self):
        # The least and the greatest count at each time: the records next to them follow, and no further ones.
        records = [("at least", 0, 0), ("at most", 0, 0), ("at least", 10, 3), ("at most", 10, 3)]
        for time, least, greatest in ((20, 5, 7), (0, 0, 0), (10, 3, 3), (5, 1, 2), (-10, -4, -2)):
            for number in range(least - 2, greatest + 3):
                word = "follows" if number <= least else "open"
                self.assertEqual(self.check_answer(records, ("at least", time, number)), word, (time, number))
                word = "follows" if number >= greatest else "open"
                self.assertEqual(self.check_answer(records, ("at most", time, number)), word, (time, number))

    def test_conflicting_records(self):
        for record in (("at least", 0, 99), ("at most", 0, -99), ("at least", FAR, FAR), CONFLICTING[0]):
            self.assertEqual(self.check_answer(CONFLICTING, record), "follows")

    def test_200_records(self):
        source = random.Random(114)
        for rule, times in (((3, 7, 2), 400), ((3, 7, 2), FAR), (FAR_RULES[0], FAR)):
            for number in (199, 200):
                records = fitting_records(source, number, rule, times, 1)
                for record in (records[-1], records[0], against(records[-1]), ("at least", FAR, FAR)):
                    self.check_answer(records, record)
                self.assertEqual(self.check_answer(records, against(records[7])), "open")
                self.assertEqual(self.check_answer(records, records[number - 1]), "follows")

    def test_only_the_appended_record_and_the_last_one_conflict(self):
        records = [("at least", 9, -9)] * 199 + [("at least", 9, 5)]
        self.assertEqual(follows(records, ("at least", 11, 5)), ("follows", [199, 200]))
        self.assertEqual(follows(records[1:], ("at least", 11, 5)), ("follows", [198, 199]))

    def test_arguments_and_results_stay_apart(self):
        records = list(RECORDS)
        found = follows(records, ("at least", 5, 3))
        self.assertEqual(records, RECORDS)
        found[1].clear()
        self.assertEqual(follows(records, ("at least", 5, 3)), ("follows", [0, 1, 2]))

    def test_errors(self):
        for records in (RECORDS, [], CONFLICTING, [RECORDS[0]] * 200):
            check_errors(self, follows, {"records": records, "record": ("at least", 5, 3)}, {
                "records": WRONG_RECORDS, "record": [(InvalidRecord, value, len(records)) for value in NO_RECORDS]})


class IsAnswerTest(unittest.TestCase):
    def test_examples(self):
        self.assertIs(is_answer([("at least", 0, 0)], ("at least", 5, 3), ("open", (1, 2, 0))), True)
        self.assertIs(is_answer(value=("open", (1, 1, 0)), record=("at least", 5, 3), records=RECORDS[:1]), False)

    def test_words(self):
        for word in ("follows", "Follows", "follow", "", "open", "opens", "none", None, True, 0, ("follows",), []):
            value = (word, [0, 1, 2])
            self.assertIs(is_answer(RECORDS, ("at least", 5, 3), value), word == "follows")
            value = (word, (1, 2, 0))
            self.assertIs(is_answer(RECORDS[:1], ("at least", 5, 3), value), word == "open")

    def test_indexes(self):
        record = ("at least", 5, 3)
        for value in ([0, 1, 2], (0, 1, 2)):
            self.assertIs(is_answer(RECORDS, record, ("follows", value)), True)
            self.assertIs(is_answer(tuple(RECORDS), record, ("follows", value)), True)
        for value in ([0, 1], [0, 2], [1, 2], [2], [], [0, 1, 3], [2, 1, 0], [0, 1, 1, 2], [False, 1, 2],
                      [False, True, 2], [-3, -2, -1], (1, 2, 0), [[0, 1, 2]], "012", {0: 0, 1: 1, 2: 2}, *NO_INTEGERS):
            self.assertIs(is_answer(RECORDS, record, ("follows", value)), False, value)
        # Two of three may conflict.
        records = [("at least", 3, 1), ("at least", 5, 4)]
        self.assertIs(is_answer(records, record, ("follows", [0, 1, 2])), True)
        self.assertIs(is_answer(records, record, ("follows", [1, 2])), True)
        # The opposite of the record does not need to take part.
        self.assertIs(is_answer(CONFLICTING, record, ("follows", [0, 1])), True)
        self.assertIs(is_answer(CONFLICTING, record, ("follows", [1, 2])), False)

    def test_rules(self):
        records, record = [("at least", 0, 0), ("at most", 8, 9)], ("at least", 5, 3)
        for value in ((1, 2, 0), (1, 3, 2), (0, 1, 0), (0, 1, 2), (2, 5, 4), (10 ** 60 - 1, 2 * 10 ** 60, 0)):
            self.assertIs(is_answer(records, record, ("open", value)), True, value)
        for value in ((2, 4, 0), (1, 2, -1), (1, 2, 1), (1, 2, 2), (1, 1, 0), (0, 1, 3), (0, 2, 0), [1, 2, 0], (1, 2),
                      (1, 2, 0, 0), (1, 2, False), (True, 2, 0), (-1, 2, 9), (1, -2, 0), (0, 0, 0), ((1, 2, 0),), "120",
                      *NO_INTEGERS):
            self.assertIs(is_answer(records, record, ("open", value)), False, value)

    def test_other_objects(self):
        record = ("at least", 5, 3)
        for records in (RECORDS, RECORDS[:1], CONFLICTING):
            for value in (["follows", [0, 1, 2]], ["open", (1, 2, 0)], ("follows",), ("open",), "follows", "open",
                          ("follows", [0, 1, 2], None), ("open", (1, 2, 0), None), (("open", (1, 2, 0)),),
                          {"open": (1, 2, 0)}, {"follows": [0, 1, 2]}, (1, 2, 0), [0, 1, 2], 5, ("follows", "open"),
                          ["follows"] * 300, *NO_INTEGERS):
                before = copy.deepcopy(value)
                self.assertIs(is_answer(records, record, value), False, value)
                self.assertTrue(same(value, before))

    def test_against_the_words(self):
        source = random.Random(115)
        seen = {True: 0, False: 0}
        for records, record in questions(116, 6, 12):
            doubted = [*records, against(record)]
            for _ in range(6):
                indexes = sorted(source.sample(range(len(doubted)), min(len(doubted), source.randint(2, 3))))
                right = len(indexes) > 1 and interval([doubted[index] for index in indexes]) is None
                self.assertIs(is_answer(records, record, ("follows", indexes)), right)
                seen[right] += 1
            for rule in small_rules(117, 5):
                right = all(fits_record(rule, item) for item in records) and not fits_record(rule, record)
                self.assertIs(is_answer(records, record, ("open", rule)), right)
                seen[right] += 1
        self.assertGreater(min(seen.values()), 50)

    def test_200_records(self):
        records = [("at least", 9, -9)] * 199 + [("at least", 9, 5)]
        self.assertIs(is_answer(records, ("at least", 11, 5), ("follows", [199, 200])), True)
        self.assertIs(is_answer(records, ("at least", 11, 5), ("follows", [200, 201])), False)
        with self.assertRaises(InvalidRecord):
            is_conflict(records + [("at most", 11, 4)], [199, 200])

    def test_errors(self):
        for records in (RECORDS, [], CONFLICTING, [RECORDS[0]] * 200):
            for value in (("open", (1, 2, 0)), None, ("follows", [0, 1, 2])):
                check_errors(self, is_answer, {"records": records, "record": ("at least", 5, 3), "value": value}, {
                    "records": WRONG_RECORDS, "record": [(InvalidRecord, item, len(records)) for item in NO_RECORDS],
                    "value": []})


class CoreTest(unittest.TestCase):
    def test_examples(self):
        self.assertEqual(core([("at least", 0, 0), ("at least", 5, 3), ("at least", 10, 6)]), [0, 2])
        self.assertEqual(core(records=(("at least", 0, 0), ("at least", 5, 4), ("at least", 10, 6))), [0, 1, 2])
        self.assertEqual(core([]), [])
        self.assertEqual(core([("at most", 3, 1)]), [0])

    def test_equal_records(self):
        self.assertEqual(core([("at most", 3, 1)] * 200), [0])
        self.assertEqual(core([("at least", 3, 1), ("at least", 3, 2)] * 100), [1])
        self.assertEqual(core([("at least", 0, 0), ("at least", 10, 6)] * 2 + [("at least", 5, 3)]), [0, 1])
        pinned = [("at least", 0, 0), ("at most", 0, 0), ("at least", 10, 3), ("at most", 10, 3)]
        self.assertEqual(core(pinned * 50), [0, 1, 2, 3])

    def test_order(self):
        # One of two records follows from the other one, whichever comes first; of equal ones the last is removed.
        for first, second in ((("at least", 4, 2), ("at least", 5, 2)), (("at most", 8, 3), ("at most", 9, 3))):
            for records in ([first, second], [second, first]):
                self.assertEqual(core(records), core_by_steps(records))
        self.assertEqual(core([("at least", 5, 2), ("at least", 4, 2)]), [1])
        self.assertEqual(core([("at least", 4, 2), ("at least", 5, 2)]), [0])
        self.assertEqual(core([("at least", 5, 2), ("at least", 4, 2), ("at least", 4, 2)]), [1])

    def test_step_by_step(self):
        seen = {}
        for records in sample_lists(118, 25, 40):
            if interval(records) is None:
                self.check_no_rule(records)
                continue
            found = core(records)
            self.assertTrue(ascending(found, len(records)))
            self.assertEqual(found, core_by_steps(records), records)
            seen[len(found)] = seen.get(len(found), 0) + 1
        self.assertGreater(len(seen), 4)

    def test_small_lists(self):
        source = random.Random(119)
        for _ in range(1500):
            records = random_records(source, source.randint(1, 7), 3, 2)
            if interval(records) is not None:
                self.assertEqual(core(records), core_by_steps(records), records)

    def test_many_that_do_not_follow(self):
        # Corners of a bent line: none of them follows from the others.
        for scale in (1, 10 ** 140):
            records = [("at least", i * scale, i * (200 - i) * scale) for i in range(99)]
            self.assertEqual(core(records), list(range(99)))
            self.assertEqual(core(records + records), list(range(99)))

    def test_200_records(self):
        source = random.Random(120)
        for rule, times, slack in (((3, 7, 2), 400, 0), ((3, 7, 2), FAR, 2), (FAR_RULES[5], FAR, FAR)):
            records = fitting_records(source, 200, rule, times, slack)
            before = list(records)
            found = core(records)
            self.assertEqual(records, before)
            self.check_core(records, found)

    def check_core(self, records, found):
        """All records follow from those of the core, and none of the core from the others of it."""
        for index, record in enumerate(records):
            others = [records[other] for other in found if other != index]
            self.assertEqual(interval(others + [against(record)]) is None, index not in found)

    def test_arguments_and_results_stay_apart(self):
        core(RECORDS).clear()
        self.assertEqual(core(RECORDS), [0, 1])

    def check_no_rule(self, records):
        with self.assertRaises(NoRule) as caught:
            core(records)
        self.assertIs(type(caught.exception), NoRule)

    def test_errors(self):
        self.check_no_rule(CONFLICTING)
        self.check_no_rule(tuple(CONFLICTING * 100))
        check_errors(self, core, {"records": RECORDS}, {"records": WRONG_RECORDS})
        with self.assertRaises(InvalidRecord) as caught:
            core([*CONFLICTING, None])
        self.assertEqual(caught.exception.index, 2)


if __name__ == "__main__":
    unittest.main()
