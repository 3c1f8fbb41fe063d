"""Logs: records with moments and witnesses, who may be distrusted."""

from leapfit.conflicts import find_conflict
from leapfit.errors import DuplicateMoment, InvalidRecord, InvalidWitness, UnknownMoment
from leapfit.fitting import fitting_rule, leave_no_rate, pairs_with, rate_ends, tight_pairs
from leapfit.forecasts import range_at
from leapfit.integers import check_at_least, check_integer, is_integer
from leapfit.records import is_record

LETTERS = "abcdefghijklmnopqrstuvwxyz"
MOST_LETTERS = 12


def is_witness(value):
    """Whether the value can be the name of a witness."""
    if not isinstance(value, str) or not 1 <= len(value) <= MOST_LETTERS:
        return False
    return all([letter in LETTERS for letter in value])


def check_source(moment, witness):
    """Raise the error for the first of the two that is not valid."""
    check_at_least(moment, 0)
    if not is_witness(witness):
        raise InvalidWitness(witness)


class Log:
    """Entries with different moments. An answer with until uses only those up to this moment."""

    def __init__(self):
        self.held = {}

    def __len__(self):
        return len(self.held)

    def report(self, moment, witness, record):
        """Add an entry in which the witness reports a record."""
        check_source(moment, witness)
        if not is_record(record):
            raise InvalidRecord(0)
        self.enter((moment, witness, record))

    def distrust(self, moment, witness):
        """Add an entry which states that the witness is distrusted."""
        check_source(moment, witness)
        self.enter((moment, witness, False))

    def trust(self, moment, witness):
        """Add an entry which states that the witness is trusted again."""
        check_source(moment, witness)
        self.enter((moment, witness, True))

    def enter(self, entry):
        """Add an entry (moment, witness, what), whose parts are valid."""
        if entry[0] in self.held:
            raise DuplicateMoment(entry[0])
        self.held[entry[0]] = entry

    def delete(self, moment):
        """Remove the entry of a moment."""
        # True and 1 are the same key, but True is no moment.
        if not is_integer(moment) or moment not in self.held:
            raise UnknownMoment(moment)
        del self.held[moment]

    def entries(self, *, until=None):
        """The tuples (moment, witness, what) by moment; what is a record, or whether the witness is trusted."""
        return [self.held[moment] for moment in sorted(self.held) if until is None or moment <= until]

    def records(self, *, until=None):
        """The records that count."""
        return [record for witness, record in self.reports(until)]

    def reports(self, until):
        """The records that count, as tuples (witness, record)."""
        entries = self.entries(until=until)
        trusted = {witness: what for moment, witness, what in entries if isinstance(what, bool)}
        return [(witness, what) for moment, witness, what in entries
                if not isinstance(what, bool) and trusted.get(witness, True)]

    def rates(self, *, until=None):
        """The ends of the rates that fit the records that count, or None."""
        return rate_ends(self.records(until=until))

    def least_rule(self, *, until=None):
        """The least rule that fits the records that count."""
        return fitting_rule(self.records(until=until))

    def count_range(self, time, *, until=None):
        """The least and the greatest count at a time over all rules that fit the records that count."""
        check_integer(time)
        return range_at(self.records(until=until), time)

    def blamed(self, *, until=None):
        """The witnesses of one conflict of the records that count, or None if some rule fits them."""
        reports = self.reports(until)
        found = find_conflict([record for witness, record in reports])
        return None if found is None else sorted(set([reports[index][0] for index in found]))

    def suspects(self, *, until=None):
        """The witnesses without whom some rule fits the records that count, or None if some rule fits them anyway."""
        blamed = self.blamed(until=until)
        if blamed is None:
            return None
        # Without someone who is not blamed for this conflict, it would still be there.
        return [witness for witness in blamed if rate_ends(self.records_without(witness, until)) is not None]

    def records_without(self, witness, until):
        """The records that count of the other witnesses."""
        return [record for other, record in self.reports(until) if other != witness]

    def changes(self):
        """The tuples (moment, fitting) of the entries after which some rule fits again, or no longer."""
        found = []
        fitting = True
        known = []
        pairs = tight_pairs(known)
        for moment in sorted(self.held):
            records = self.records(until=moment)
            # Most entries add one record. Then only its pairs are new.
            if len(records) == len(known) + 1 and records[:-1] == known:
                pairs = pairs_with(pairs, known, records[-1])
            elif records != known:
                pairs = tight_pairs(records)
            known = records
            if leave_no_rate(pairs) == fitting:
                fitting = not fitting
                found.append((moment, fitting))
        return found
