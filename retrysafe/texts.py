"""The texts of jobs."""

from retrysafe.decimals import is_digits
from retrysafe.errors import InvalidJob, ParseError
from retrysafe.jobs import Job

_MOST_DIGITS = 100


def format_job(job):
    """The text of a job."""
    lines = [f"store {name}: " + " ".join(variables) for name, variables in job.stores]
    if len(job.arguments) > 0:
        lines.append("given " + " ".join(job.arguments))
    if len(job.temps) > 0:
        lines.append("local " + " ".join(job.temps))
    lines.append("job")
    lines.extend(indented(job.steps))
    lines.append("end")
    return "\n".join(lines)


def indented(steps):
    """The lines of statements that stand one level deeper than what is around them."""
    return ["  " + line for step in steps for line in statement_lines(step)]


def statement_lines(statement):
    """The lines of a statement."""
    word = statement[0]
    if word == "set":
        return [f"set {statement[1]} = {sum_text(statement[2])}"]
    if word == "take":
        return [f"take {statement[1]}"]
    if word == "send":
        values = ", ".join([sum_text(part) for part in statement[2]])
        return [f"send {statement[1]} {values}" if len(statement[2]) > 0 else f"send {statement[1]}"]
    if word == "atomic":
        return ["atomic"] + indented(statement[1]) + ["end"]
    numbers = " ".join([str(number) for number in statement[2]])
    return [f"repeat {statement[1]} in {numbers}"] + indented(statement[3]) + ["end"]


def sum_text(told):
    """The text of a sum."""
    _, constant, terms = told
    pieces = [(factor, term_text(factor, name)) for factor, name in terms]
    if constant != 0 or len(pieces) == 0:
        pieces.append((constant, str(abs(constant))))
    sign, text = pieces[0]
    found = ["-" + text if sign < 0 else text]
    for sign, text in pieces[1:]:
        found.append("- " + text if sign < 0 else "+ " + text)
    return " ".join(found)


def term_text(factor, name):
    """The text of a term without its sign."""
    return name if abs(factor) == 1 else f"{abs(factor)} * {name}"


def parse_job(text):
    """The job with exactly this text."""
    if not isinstance(text, str):
        raise ParseError(None)
    lines = text.split("\n")
    job = built(lines)
    # What was read more freely than it is written is found by writing it once more.
    written = format_job(job).split("\n")
    if written != lines:
        raise ParseError(first_difference(lines, written))
    return job


def first_difference(lines, others):
    """The number of the first line that two lists of lines do not have in common."""
    for number, (line, other) in enumerate(zip(lines, others)):
        if line != other:
            return number
    return min(len(lines), len(others))


def built(lines):
    """The job that lines tell, which may still be written otherwise."""
    reader = Reader(lines)
    stores = []
    while reader.first_word() == "store":
        stores.append(reader.read_store())
    arguments = reader.read_names("given")
    temps = reader.read_names("local")
    reader.skip("job")
    steps = reader.read_statements(("set", "take", "send", "atomic", "repeat"))
    reader.skip("end")
    try:
        return Job(tuple(stores), arguments, temps, steps)
    except InvalidJob:
        raise ParseError(len(lines))


class Reader:
    """Reads the lines of a job, one behind the other, without regard to spaces ahead of them."""

    def __init__(self, lines):
        self.lines = lines
        self.number = 0

    def is_read(self):
        """Tells whether all lines were read."""
        return self.number == len(self.lines)

    def words_here(self):
        """The words of the present line."""
        if self.is_read():
            raise ParseError(self.number)
        return self.lines[self.number].lstrip(" ").split(" ")

    def first_word(self):
        """The first word of the present line."""
        return self.words_here()[0]

    def skip(self, line):
        """Goes behind a line that is only this word."""
        if self.words_here() != [line]:
            raise ParseError(self.number)
        self.number += 1

    def read_store(self):
        """The pair of a line with a store."""
        words = self.words_here()
        if len(words) < 2:
            raise ParseError(self.number)
        self.number += 1
        return words[1].removesuffix(":"), tuple(words[2:])

    def read_names(self, word):
        """The names of a line that begins with this word; none if there is no such line."""
        words = self.words_here()
        if words[0] != word:
            return ()
        self.number += 1
        return tuple(words[1:])

    def read_statements(self, allowed):
        """The tuple of the statements ahead of the next `end`, which begin with allowed words."""
        found = []
        while self.first_word() != "end":
            if self.first_word() not in allowed:
                raise ParseError(self.number)
            found.append(self.read_statement())
        return tuple(found)

    def read_statement(self):
        """The statement that begins at the present line."""
        words = self.words_here()
        number = self.number
        self.number += 1
        if words[0] == "atomic":
            return "atomic", self.read_inner(("set", "take"))
        if len(words) < 2:
            raise ParseError(number)
        if words[0] == "repeat":
            numbers = tuple([number_of(word, number) for word in words[3:]])
            return "repeat", words[1], numbers, self.read_inner(("set", "take", "send", "atomic"))
        if words[0] == "set":
            return "set", words[1], sum_of(words[3:], number)
        if words[0] == "send":
            return "send", words[1], sums_of(words[2:], number)
        return "take", words[1]

    def read_inner(self, allowed):
        """The statements within one, up to the `end` behind them."""
        found = self.read_statements(allowed)
        self.skip("end")
        return found


def sums_of(words, number):
    """The tuple of the sums that stand with commas between them on the line of this number."""
    if len(words) == 0:
        return ()
    return tuple([sum_of(part.split(" "), number) for part in " ".join(words).split(", ")])


def sum_of(words, number):
    """The sum that some words of the line of this number tell."""
    if len(words) == 0:
        raise ParseError(number)
    sign = -1 if words[0].startswith("-") else 1
    rest = [words[0].removeprefix("-")] + words[1:]
    constant = 0
    terms = []
    at = 0
    while at < len(rest):
        factor, name, many = piece_of(rest, at, number)
        if name is None:
            constant += sign * factor
        else:
            terms.append((sign * factor, name))
        at += many
        if at == len(rest):
            return "sum", constant, tuple(terms)
        sign = -1 if rest[at] == "-" else 1
        at += 1
    raise ParseError(number)


def piece_of(words, at, number):
    """The factor, the name (None for a constant) and the number of words of the part of a sum that begins there."""
    if not is_digits(words[at]):
        return 1, words[at], 1
    factor = number_of(words[at], number)
    if words[at + 1:at + 2] == ["*"] and len(words) > at + 2:
        return factor, words[at + 2], 3
    return factor, None, 1


def number_of(word, number):
    """The number that a word of the line of this number tells."""
    digits = word.removeprefix("-")
    # Python refuses to read numbers of thousands of digits.
    if not is_digits(digits) or len(digits) > _MOST_DIGITS:
        raise ParseError(number)
    return int(word)
