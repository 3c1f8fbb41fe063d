"""Written forms of rules, records and logs.

The functions read_... take the words of a text and return None if they are not the written form.
"""

from leapfit.errors import InvalidRecord, ParseError
from leapfit.log import Log, is_witness
from leapfit.records import is_record
from leapfit.rules import check_rule, is_rule

DIGITS = "0123456789"
MOST_DIGITS = 200
BLOCK_DIGITS = 60
BLOCK = 10 ** 60


def format_rule(rule):
    """The written form of a rule."""
    check_rule(rule)
    p, q, c = rule
    return f"rule {write_integer(p)} {write_integer(q)} {write_integer(c)}"


def parse_rule(text):
    """The rule that is written."""
    rule = read_rule(words_of(text))
    if rule is None:
        raise ParseError(text)
    return rule


def format_record(record):
    """The written form of a record."""
    if not is_record(record):
        raise InvalidRecord(0)
    word, time, number = record
    return f"{word} {write_integer(number)} at {write_integer(time)}"


def parse_record(text):
    """The record that is written."""
    record = read_record(words_of(text))
    if record is None:
        raise ParseError(text)
    return record


def format_log(log):
    """The written form of a log, one line for each entry."""
    return "\n".join([format_entry(entry) for entry in log.entries()])


def parse_log(text):
    """The log that is written; its lines may be in any order."""
    if not isinstance(text, str):
        raise ParseError(text)
    entries = []
    for line in text.split("\n") if text else []:
        entry = read_entry(words_of(line))
        if entry is None:
            raise ParseError(line)
        entries.append(entry)
    log = Log()
    for entry in entries:
        log.enter(entry)
    return log


def format_entry(entry):
    """The line of an entry (moment, witness, what)."""
    moment, witness, what = entry
    if what is True:
        return f"{write_integer(moment)} {witness} is trusted"
    if what is False:
        return f"{write_integer(moment)} {witness} is distrusted"
    return f"{write_integer(moment)} {witness} reports {format_record(what)}"


def write_integer(number):
    """The written form of an integer. Python itself writes no integers of more than some thousand digits."""
    rest = abs(number)
    blocks = []
    while rest >= BLOCK:
        rest, block = divmod(rest, BLOCK)
        blocks.append(str(block).zfill(BLOCK_DIGITS))
    blocks.append(str(rest) if number >= 0 else f"-{rest}")
    return "".join(reversed(blocks))


def words_of(text):
    """The words of a text, which one space separates; none for any other object."""
    return text.split(" ") if isinstance(text, str) else []


def read_integer(word):
    """The integer that is written, or None."""
    digits = word[1:] if word.startswith("-") else word
    if not 1 <= len(digits) <= MOST_DIGITS or not all([digit in DIGITS for digit in digits]):
        return None
    if digits.startswith("0") and word != "0":
        return None
    return int(word)


def read_moment(word):
    """The moment that is written, or None."""
    moment = read_integer(word)
    return None if moment is None or moment < 0 else moment


def read_rule(words):
    """The rule that is written, or None."""
    rule = tuple([read_integer(word) for word in words[1:]])
    return rule if words[:1] == ["rule"] and is_rule(rule) else None


def read_record(words):
    """The record that is written, or None."""
    if len(words) != 5 or words[3] != "at":
        return None
    record = (f"{words[0]} {words[1]}", read_integer(words[4]), read_integer(words[2]))
    return record if is_record(record) else None


def read_entry(words):
    """The entry (moment, witness, what) that is written, or None."""
    if len(words) < 4 or read_moment(words[0]) is None or not is_witness(words[1]):
        return None
    what = None
    if words[2] == "reports":
        what = read_record(words[3:])
    elif words[2:] == ["is", "trusted"]:
        what = True
    elif words[2:] == ["is", "distrusted"]:
        what = False
    return None if what is None else (read_moment(words[0]), words[1], what)
