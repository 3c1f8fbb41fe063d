"""The console: named rules and one log, used by lines of text."""

from leapfit.comparison import first_difference
from leapfit.errors import CommandError, UnknownName
from leapfit.events import event_time
from leapfit.log import Log, is_witness
from leapfit.notation import format_rule, read_entry, read_integer, read_moment, words_of, write_integer
from leapfit.rules import count, is_rule

# What follows the first word of each command.
FORMS = {
    "rule": ("name", "integer", "integer", "integer"),
    "count": ("name", "integer"),
    "event": ("name", "integer"),
    "differ": ("name", "name", "integer"),
    "delete": ("moment",),
    "clear": (),
    "rates": (),
    "best": (),
    "range": ("integer",),
    "blame": (),
}

# These may be followed by a last moment.
QUESTIONS = ("rates", "best", "range", "blame")


class Console:
    """Named rules and one log, which is empty at first."""

    def __init__(self):
        self.named = {}
        self.log = Log()

    def run(self, line):
        """Execute a line and return the text."""
        words = words_of(line)
        entry = read_entry(words)
        if entry is not None:
            self.log.enter(entry)
            return "ok"
        command = read_command(words)
        if command is None:
            raise CommandError(line)
        word, parts, until = command
        if word in QUESTIONS:
            return self.ask_log(word, parts, until)
        if word in ("count", "event", "differ"):
            return self.ask_rules(word, parts)
        self.change(word, parts)
        return "ok"

    def change(self, word, parts):
        """Execute a command that changes something."""
        if word == "rule":
            self.named[parts[0]] = tuple(parts[1:])
        elif word == "delete":
            self.log.delete(parts[0])
        else:
            self.log = Log()

    def ask_rules(self, word, parts):
        """The answer to a command about named rules; the last part is a number, the others are names."""
        number = parts[-1]
        rules = [self.rule_called(name) for name in parts[:-1]]
        if word == "count":
            return write_integer(count(rules[0], number))
        if word == "event":
            return "none" if rules[0][0] == 0 else write_integer(event_time(rules[0], number))
        time = first_difference(rules[0], rules[1], number)
        return "never" if time is None else write_integer(time)

    def rule_called(self, name):
        """The rule with this name."""
        if name not in self.named:
            raise UnknownName(name)
        return self.named[name]

    def ask_log(self, word, parts, until):
        """The answer to a command about the log."""
        if word == "blame":
            blamed = self.log.blamed(until=until)
            return "none" if blamed is None else " ".join(blamed)
        ends = self.log.rates(until=until)
        if ends is None:
            return "none"
        if word == "rates":
            return write_ends(ends)
        if word == "best":
            return format_rule(self.log.least_rule(until=until))
        least, greatest = self.log.count_range(parts[0], until=until)
        return f"{write_bound(least)} to {write_bound(greatest)}"


def read_command(words):
    """A tuple of the first word of a command, its other parts and the last moment or None; None for no command."""
    until = None
    if len(words) > 2 and words[0] in QUESTIONS and words[-2] == "until":
        until = read_moment(words[-1])
        if until is None:
            return None
        words = words[:-2]
    if not words or words[0] not in FORMS:
        return None
    kinds = FORMS[words[0]]
    if len(kinds) != len(words) - 1:
        return None
    parts = [read_part(kind, word) for kind, word in zip(kinds, words[1:])]
    if None in parts or words[0] == "rule" and not is_rule(tuple(parts[1:])):
        return None
    return (words[0], parts, until)


def read_part(kind, word):
    """The name, the integer or the moment that is written, or None."""
    if kind == "name":
        return word if is_witness(word) else None
    return read_moment(word) if kind == "moment" else read_integer(word)


def write_ends(ends):
    """The ends of the rates as a text."""
    low, high = ends
    text = "from 0" if low is None else f"above {write_rate(low)}"
    return text if high is None else f"{text} below {write_rate(high)}"


def write_rate(rate):
    """A rate as a text."""
    return f"{write_integer(rate[0])}/{write_integer(rate[1])}"


def write_bound(bound):
    """A bound of the counts as a text."""
    return "any" if bound is None else write_integer(bound)
