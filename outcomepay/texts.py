"""Jobs and pays as texts, and texts that are read."""

from outcomepay.errors import BadText
from outcomepay.jobs import FEWEST, MOST, Job, are_worths, check_job, check_pay, is_work
from outcomepay.ratios import is_amount

DIGITS = "0123456789"


def job_text(job):
    """The text of a job: a line with the worths, and one for each work."""
    check_job(job)
    lines = [_line(["worths"] + _words(job.worths))]
    for effort, parts in job.works:
        lines.append(_line(["effort", str(effort), "parts"] + _words(parts)))
    return "".join(lines)


def pay_text(job, pay):
    """The text of a pay for a job: a line for each outcome."""
    check_job(job)
    check_pay(job, pay)
    return "".join([_line([str(outcome), "pays", f"{top}/{bottom}"]) for outcome, (top, bottom) in enumerate(pay)])


def read_job(text):
    """The job that is written in a text."""
    lines, rest = _lines(text)
    worths = _read_worths(lines[0]) if len(lines) > 0 else None
    if worths is None:
        raise BadText(0)
    works = []
    for row, line in enumerate(lines[1:], start=1):
        work = _read_work(line, len(worths))
        if work is None or row > MOST:
            raise BadText(row)
        works.append(work)
    if len(works) < FEWEST or rest != "":
        raise BadText(len(lines))
    return Job(worths, tuple(works))


def read_pay(job, text):
    """The pay for the job that is written in a text."""
    check_job(job)
    lines, rest = _lines(text)
    many = len(job.worths)
    amounts = []
    for outcome, line in enumerate(lines):
        amount = _read_amount(line, outcome)
        if amount is None or outcome >= many:
            raise BadText(outcome)
        amounts.append(amount)
    if len(amounts) < many or rest != "":
        raise BadText(len(lines))
    return tuple(amounts)


def _words(numbers):
    """The numbers as they are written."""
    return [str(number) for number in numbers]


def _line(words):
    """A line of words."""
    return " ".join(words) + "\n"


def _lines(text):
    """All lines of a text, without their line feeds, and the characters behind the last one."""
    if not isinstance(text, str):
        raise BadText(0)
    pieces = text.split("\n")
    return pieces[:-1], pieces[-1]


def _read_worths(line):
    """The worths that are written in a line, None if it is none of worths."""
    words = line.split(" ")
    worths = _read_numbers(words[1:])
    return worths if words[0] == "worths" and are_worths(worths) else None


def _read_work(line, outcomes):
    """The work for so many outcomes that is written in a line, None if it is none of a work."""
    words = line.split(" ")
    if len(words) != 3 + outcomes or words[0] != "effort" or words[2] != "parts":
        return None
    numbers = _read_numbers(words[1:2] + words[3:])
    if numbers is None:
        return None
    work = (numbers[0], numbers[1:])
    return work if is_work(work, outcomes) else None


def _read_amount(line, outcome):
    """What the outcome pays, as it is written in a line, None if it is none for this outcome."""
    words = line.split(" ")
    if len(words) != 3 or words[0] != str(outcome) or words[1] != "pays":
        return None
    amount = _read_numbers(words[2].split("/"))
    return amount if is_amount(amount) else None


def _read_numbers(words):
    """The numbers that are written as words, None if one of them is no number."""
    numbers = [_read_number(word) for word in words]
    return None if None in numbers else tuple(numbers)


def _read_number(word):
    """The number that is written as a word, None if it is not written as a number."""
    if word == "" or (word[0] == "0" and word != "0"):
        return None
    # Digit by digit: `int` also reads digits of other scripts, and fails with very long words.
    number = 0
    for letter in word:
        digit = DIGITS.find(letter)
        if digit < 0:
            return None
        number = 10 * number + digit
    return number
