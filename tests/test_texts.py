import re
import unittest
from math import gcd
from random import Random

from outcomepay.errors import BadJob, BadPay, BadText
from outcomepay.jobs import Job
from outcomepay.pays import Barred, least_pay
from outcomepay.texts import job_text, pay_text, read_job, read_pay
from tests import model
from tests.wrong import anything

ZERO = (0, 1)
ONE = (1, 1)
JOB = Job((0, 4, 8), ((0, (2, 1, 1)), (2, (1, 2, 1))))
PAY = (ZERO, (8, 1), (1, 2))
JOB_TEXT = "worths 0 4 8\neffort 0 parts 2 1 1\neffort 2 parts 1 2 1\n"
PAY_TEXT = "0 pays 0/1\n1 pays 8/1\n2 pays 1/2\n"
SMALL = Job((20, 0), ((9, (6, 0)), (0, (0, 6))))
SMALL_TEXT = "worths 20 0\neffort 9 parts 6 0\neffort 0 parts 0 6\n"
LARGE = Job((1, 2, 3, 4), ((0, (1, 0, 0, 0)), (1, (0, 1, 0, 0)), (2, (0, 0, 1, 0)), (3, (0, 0, 0, 1))))

NUMBER = "(0|[1-9][0-9]*)"


def numbers(words):
    """The numbers that are written as words, None if one is not."""
    found = [re.fullmatch(NUMBER, word) for word in words]
    return [int(word) for word in words] if all(found) else None


def is_worths(line):
    if not re.fullmatch(f"worths( {NUMBER}){{2,4}}", line):
        return False
    return max(numbers(line.split(" ")[1:])) <= 20


def is_work(line, outcomes):
    if not re.fullmatch(f"effort {NUMBER} parts( {NUMBER}){{{outcomes}}}", line):
        return False
    effort, *parts = numbers(line.split(" ")[1:2] + line.split(" ")[3:])
    return effort <= 9 and 0 < max(parts) <= 6


def is_amount(line, outcome):
    if not re.fullmatch(f"{outcome} pays {NUMBER}/{NUMBER}", line):
        return False
    top, bottom = numbers(line.split(" ")[2].split("/"))
    return bottom > 0 and gcd(top, bottom) == 1


def wrong_row(text, are, least):
    """The first wrong line: `are` has a check for each line that there may be, the least of which must be there."""
    ended = text.count("\n")
    lines = text.split("\n")[:ended]
    for row, line in enumerate(lines):
        if row >= len(are) or not are[row](line):
            return row
    return ended if ended < least or not text.endswith("\n") else None


def wrong_job_row(text):
    outcomes = text.split("\n")[0].count(" ")
    return wrong_row(text, [is_worths] + [lambda line: is_work(line, outcomes)] * 4, 3)


def wrong_pay_row(job, text):
    many = len(job.worths)
    return wrong_row(text, [lambda line, outcome=outcome: is_amount(line, outcome) for outcome in range(many)], many)


class Writing(unittest.TestCase):
    def test_by_hand(self):
        self.assertEqual([job_text(JOB), pay_text(JOB, PAY)], [JOB_TEXT, PAY_TEXT])
        self.assertEqual(job_text(SMALL), SMALL_TEXT)
        self.assertEqual(job_text(LARGE), "worths 1 2 3 4\neffort 0 parts 1 0 0 0\neffort 1 parts 0 1 0 0\n"
                                          "effort 2 parts 0 0 1 0\neffort 3 parts 0 0 0 1\n")
        self.assertEqual(pay_text(SMALL, ((10 ** 30, 7), (3, 10 ** 20))),
                         "0 pays 1000000000000000000000000000000/7\n1 pays 3/100000000000000000000\n")

    def test_what_is_written_is_read_back(self):
        luck = Random(121)
        for job in model.some_jobs(122, 200) + [JOB, SMALL, LARGE]:
            text = job_text(job)
            self.assertEqual([type(text), wrong_job_row(text)], [str, None])
            found = read_job(text)
            self.assertIs(type(found), Job)
            self.assertEqual([found, found.worths, found.works], [job, job.worths, job.works])
            pays = [model.some_pay(luck, job)]
            pays += [found.pay for found in [least_pay(job, 0)] if not isinstance(found, Barred)]
            for pay in pays:
                text = pay_text(job, pay)
                self.assertIsNone(wrong_pay_row(job, text))
                self.assertEqual([read_pay(job, text), type(read_pay(job, text))], [pay, tuple])

    def test_great_numbers(self):
        for digits in (1, 100, 1000, 3999):
            pay = ((10 ** digits, 1), (1, 10 ** digits), (10 ** digits, 10 ** digits + 1))
            self.assertEqual(read_pay(JOB, pay_text(JOB, pay)), pay)


class ReadingJobs(unittest.TestCase):
    def bad(self, row, text):
        with self.assertRaises(BadText, msg=repr(text)) as caught:
            read_job(text)
        self.assertEqual(caught.exception.row, row, repr(text))

    def test_no_string(self):
        for thing in anything() + [JOB, [JOB_TEXT], JOB_TEXT.encode(), (JOB_TEXT,), {JOB_TEXT: 1}, iter(JOB_TEXT)]:
            if not isinstance(thing, str):
                self.bad(0, thing)

    def test_no_lines(self):
        for text in ("", " ", "worths 0 4 8", "x", "effort 0 parts 1 1", "\r", "worths 0 4\r"):
            self.bad(0, text)
        for text in ("\n", " \n", "\n" + JOB_TEXT, "\n\n\n", "\ufeff" + JOB_TEXT):
            self.bad(0, text)

    def test_missing_lines(self):
        lines = JOB_TEXT.splitlines(keepends=True)
        for many in range(3):
            self.bad(many, "".join(lines[:many]))
        self.bad(0, "".join(lines[1:]))
        self.bad(2, lines[0] + lines[1] + lines[2][:-1])
        self.bad(1, lines[0] + lines[1][:-1])

    def test_what_follows_the_last_line_feed(self):
        for rest in (" ", "x", "\r", "effort 1 parts 1 1 1", "0", "\t", "effort"):
            self.bad(3, JOB_TEXT + rest)
        self.bad(5, job_text(LARGE) + "x")
        self.bad(5, job_text(LARGE) + "effort 0 parts 1 1 1 1")
        # A wrong line comes first.
        self.bad(1, JOB_TEXT.replace("effort 0", "effort 00") + "x")

    def test_further_lines(self):
        for line in ("", " ", "x", "worths 0 4 8", "effort 0 parts 0 0 0", "effort 10 parts 1 1 1", "effort 0 parts 1 1"):
            self.bad(3, JOB_TEXT + line + "\n")
            self.bad(3, JOB_TEXT + line + "\n" + "effort 0 parts 1 1 1\n" * 4)
        good = "effort 0 parts 1 1 1\n"
        self.assertEqual([len(read_job(JOB_TEXT + good * more)) for more in range(3)], [2, 3, 4])
        self.bad(5, JOB_TEXT + good * 3)
        self.bad(5, JOB_TEXT + good * 100)
        self.bad(5, JOB_TEXT + good * 2 + "\n")
        self.bad(5, JOB_TEXT + good * 2 + "x\n" + good)
        self.bad(4, JOB_TEXT + good + "\n" + good)

    def test_wrong_worths(self):
        for line in ("worths", "worths ", "worths 0", "worths 0 1 2 3 4", "worths 0 1 2 3 4 5", "0 4 8", "worths  0 4 8",
                     "worths 0  4 8", "worths 0 4 8 ", " worths 0 4 8", "worths\t0 4 8", "worths 0\t4 8", "worths 00 4 8",
                     "worths 0 04 8", "worths 0 4 +8", "worths 0 -4 8", "worths -0 4 8", "worths 0 4 21", "worths 21 4 8",
                     "worths 0 100 8", "worths 0 4 8\r", "Worths 0 4 8", "worth 0 4 8", "worths: 0 4 8", "worths 0,4,8",
                     "worths 0 4 x", "worths 0 4 8.0", "worths 0 4 1e1", "worths 0 4 0x8", "worths 0 4 1_0",
                     "worths 0 4 \u0668", "worths 0 4 \u00b2", "worths 0 4 \uff18", "worths\u00a00 4 8",
                     "worths 0 4 8\x0b", "worths 0 4 8\u2028", "worths 0 4 8\x00", "worths 0 4 " + "9" * 5000,
                     "effort 0 parts 2 1 1", "", "worths 0 4 True", "worths 0/1 4 8"):
            self.bad(0, line + "\neffort 0 parts 2 1 1\neffort 2 parts 1 2 1\n")
        self.bad(0, "worths\n0 4 8\n" + JOB_TEXT)
        for line in ("worths 20 0 20", "worths 10 9 19"):
            self.assertEqual(job_text(read_job(line + JOB_TEXT[12:])), line + JOB_TEXT[12:])

    def test_wrong_works(self):
        for line in ("effort", "effort 0", "effort 0 parts", "effort 0 parts 2 1", "effort 0 parts 2 1 1 1", "effort parts",
                     "effort 0 parts 0 0 0", "effort 10 parts 2 1 1", "effort 0 parts 7 1 1", "effort 0 parts 2 1 10",
                     "effort -1 parts 2 1 1", "effort -0 parts 2 1 1", "effort 00 parts 2 1 1", "effort 01 parts 2 1 1",
                     "effort 0 parts 02 1 1", "effort 0 parts 2 -1 1", "effort +0 parts 2 1 1", "effort 0  parts 2 1 1",
                     "effort  0 parts 2 1 1", " effort 0 parts 2 1 1", "effort 0 parts 2 1 1 ", "effort 0 parts 2  1 1",
                     "effort\t0 parts 2 1 1", "effort 0 parts\t2 1 1", "effort 0 parts 2 1 1\r", "Effort 0 parts 2 1 1",
                     "effort 0 part 2 1 1", "efforts 0 parts 2 1 1", "effort 0 parts: 2 1 1", "effort 0 parts 2 1 x",
                     "effort x parts 2 1 1", "effort 0 2 1 1", "parts 2 1 1 effort 0", "worths 0 4 8", "",
                     "effort \u0660 parts 2 1 1", "effort 0 parts \u00b9 1 1", "effort 0 parts 2 1 1\x85",
                     "effort " + "1" * 5000 + " parts 2 1 1", "effort 0 parts 2 1 1/1", "effort 0 parts 2 1 1.0",
                     "effort 0 parts 2 1 1_0", "effort 0 parts 2 1 1\x0c", "effort 0 parts"):
            good = "effort 2 parts 1 2 1\n"
            self.bad(1, f"worths 0 4 8\n{line}\n{good}")
            self.bad(1, f"worths 0 4 8\n{line}\n")
            self.bad(2, f"worths 0 4 8\n{good}{line}\n{good}")
            self.bad(4, f"worths 0 4 8\n{good * 3}{line}\n{good * 3}")
            # The first wrong line counts.
            self.bad(1, f"worths 0 4 8\n{line}\n{line}\n")
            self.bad(0, f"worths 0 4 21\n{line}\n{line}\n")

    def test_as_many_parts_as_worths(self):
        for worths in (2, 3, 4):
            for parts in range(1, 6):
                text = "worths" + " 1" * worths + "\n" + ("effort 1 parts" + " 1" * parts + "\n") * 2
                if parts == worths:
                    self.assertEqual(read_job(text), Job((1,) * worths, ((1, (1,) * parts),) * 2))
                else:
                    self.bad(1, text)

    def test_line_feeds_alone_end_lines(self):
        for end in ("\r\n", "\r", "\x0b", "\x0c", "\x1c", "\x85", "\u2028", "\n\r"):
            text = JOB_TEXT.replace("\n", end)
            self.bad(wrong_job_row(text), text)
        self.bad(0, JOB_TEXT.replace("\n", "\r\n"))
        self.bad(0, JOB_TEXT.replace("\n", "\r"))
        self.bad(1, JOB_TEXT.replace("\n", "\n\r"))

    def test_lines_that_are_missing_or_doubled_or_turned(self):
        for job in model.some_jobs(123, 60):
            lines = job_text(job).splitlines(keepends=True)
            for at in range(len(lines)):
                texts = [lines[:at] + lines[at + 1:], lines[:at] + lines[at:at + 1] + lines[at:], lines[:at] + ["\n"]
                         + lines[at:], lines[at:] + lines[:at], lines[:at], lines[:at] + [lines[at][:-1]] + lines[at + 1:]]
                for text in map("".join, texts):
                    self.judged(text)

    def judged(self, text):
        row = wrong_job_row(text)
        if row is None:
            self.assertEqual(job_text(read_job(text)), text)
        else:
            self.bad(row, text)

    def test_changes_are_judged_as_the_document_tells(self):
        luck = Random(124)
        told = {}
        for job in model.some_jobs(125, 150):
            for _ in range(12):
                text = changed_text(luck, job_text(job))
                self.judged(text)
                row = wrong_job_row(text)
                told[row] = told.get(row, 0) + 1
        self.assertEqual(sorted(map(str, told)), ["0", "1", "2", "3", "4", "5", "None"])
        self.assertGreater(min(told.values()), 5, told)


class ReadingPays(unittest.TestCase):
    def bad(self, row, text, job=JOB):
        with self.assertRaises(BadText, msg=repr(text)) as caught:
            read_pay(job, text)
        self.assertEqual(caught.exception.row, row, repr(text))

    def test_by_hand(self):
        self.assertEqual(read_pay(JOB, "0 pays 0/1\n1 pays 3/4\n2 pays 12/1\n"), (ZERO, (3, 4), (12, 1)))

    def test_no_string(self):
        for thing in anything() + [JOB, PAY, [PAY_TEXT], PAY_TEXT.encode(), (PAY_TEXT,), iter(PAY_TEXT)]:
            if not isinstance(thing, str):
                self.bad(0, thing)

    def test_no_lines(self):
        for text in ("", " ", "0 pays 0/1", "x", "\r", "\n", "\n" + PAY_TEXT, " \n"):
            self.bad(0, text)

    def test_missing_lines(self):
        lines = PAY_TEXT.splitlines(keepends=True)
        for many in range(3):
            self.bad(many, "".join(lines[:many]))
            self.bad(many, "".join(lines[:many] + lines[many + 1:]))
        self.bad(2, lines[0] + lines[1] + lines[2][:-1])
        self.bad(1, lines[0] + lines[1][:-1])
        self.bad(0, "".join(lines[::-1]))

    def test_what_follows_the_last_line_feed(self):
        for rest in (" ", "x", "\r", "3 pays 0/1", "0", "\t"):
            self.bad(3, PAY_TEXT + rest)
        self.bad(1, PAY_TEXT.replace("8/1", "8/01") + "x")

    def test_further_lines(self):
        for line in ("", " ", "x", "3 pays 0/1", "2 pays 1/2", "3 pays 2/4", "effort 0 parts 1 1 1"):
            self.bad(3, PAY_TEXT + line + "\n")
            self.bad(3, PAY_TEXT + line + "\n" + "3 pays 0/1\n" * 4)
        self.bad(2, PAY_TEXT, SMALL)
        self.bad(3, PAY_TEXT, LARGE)
        self.assertEqual(read_pay(LARGE, PAY_TEXT + "3 pays 1/1\n"), PAY + (ONE,))

    def test_wrong_lines(self):
        for line in ("1 pays", "1 pays ", "1 pays 8", "1 pays 8/", "1 pays /1", "1 pays /", "1 pays 8/1/1", "1 pays 8 / 1",
                     "1 pays 8/ 1", "1 pays 8 /1", "1 pays 8/0", "1 pays 0/0", "1 pays 0/2", "1 pays 2/4", "1 pays 16/2",
                     "1 pays -8/1", "1 pays 8/-1", "1 pays -0/1", "1 pays +8/1", "1 pays 08/1", "1 pays 8/01", "1 pays 00/1",
                     "01 pays 8/1", "0 pays 8/1", "2 pays 8/1", "-1 pays 8/1", "+1 pays 8/1", "1  pays 8/1", "1 pays  8/1",
                     " 1 pays 8/1", "1 pays 8/1 ", "1\tpays 8/1", "1 pays\t8/1", "1 pays 8/1\r", "1 Pays 8/1", "1 pay 8/1",
                     "1: pays 8/1", "pays 8/1", "1 pays 8/1 2/1", "1 pays 8:1", "1 pays 8.0/1", "1 pays 8/x", "1 pays x/1",
                     "1 pays \u0668/1", "1 pays 8/\u00b9", "\u0661 pays 8/1", "1 pays 1_0/1", "1 pays 1e1/1", "1 pays 8//1",
                     "", "x", "1 pays 8/1\x0b", "1\u00a0pays 8/1", "worths 0 4 8", "1 pays 2" + "0" * 3000 + "/2",
                     "1 pays 0" + "0" * 5000 + "/1", "1 pays 8/1\x00", "True pays 8/1"):
            self.bad(1, f"0 pays 0/1\n{line}\n2 pays 1/2\n")
            self.bad(1, f"0 pays 0/1\n{line}\n")
            self.bad(1, f"0 pays 0/1\n{line}\n{line}\n")
            self.bad(0, f"0 pays 0/2\n{line}\n2 pays 1/2\n")

    def test_line_feeds_alone_end_lines(self):
        for end in ("\r\n", "\r", "\x0b", "\x0c", "\x1c", "\x85", "\u2028", "\n\r"):
            text = PAY_TEXT.replace("\n", end)
            self.bad(wrong_pay_row(JOB, text), text)

    def test_a_wrong_job_comes_first(self):
        for job in anything() + [(JOB.worths, JOB.works), PAY_TEXT]:
            for text in (PAY_TEXT, "", None, "x\n", PAY_TEXT + "x"):
                with self.assertRaises(BadJob) as caught:
                    read_pay(job, text)
                self.assertIsNone(caught.exception.part)

    def judged(self, job, text):
        row = wrong_pay_row(job, text)
        if row is None:
            self.assertEqual(pay_text(job, read_pay(job, text)), text)
        else:
            self.bad(row, text, job)

    def test_changes_are_judged_as_the_document_tells(self):
        luck = Random(126)
        told = {}
        for job in model.some_jobs(127, 150):
            text = pay_text(job, model.some_pay(luck, job))
            for _ in range(12):
                changed = changed_text(luck, text)
                self.judged(job, changed)
                row = wrong_pay_row(job, changed)
                told[row] = told.get(row, 0) + 1
        self.assertEqual(sorted(map(str, told)), ["0", "1", "2", "3", "4", "None"])
        self.assertGreater(min(told.values()), 5, told)


class Refusing(unittest.TestCase):
    def test_writing(self):
        for job in anything() + [(JOB.worths, JOB.works), JOB_TEXT]:
            for call in (lambda: job_text(job), lambda: pay_text(job, PAY), lambda: pay_text(job, None)):
                with self.assertRaises(BadJob) as caught:
                    call()
                self.assertIsNone(caught.exception.part)
        for pay in anything() + [list(PAY), PAY[:2], PAY + PAY[:1], (ZERO, ZERO, (-1, 2)), (ZERO, ZERO, (2, 4)),
                                 (ZERO, ZERO, (1, 0)), (ZERO, ZERO, [1, 2]), (ZERO, ZERO, (True, 1)), PAY_TEXT]:
            with self.assertRaises(BadPay):
                pay_text(JOB, pay)


def changed_text(luck, text):
    """The text with a change that often makes one of its lines wrong."""
    at = luck.randrange(len(text) + 1)
    choice = luck.randrange(9)
    if choice < 3:
        return text[:at] + luck.choice(" \t\n\r0123456789+-/x\u0663\u00b2") + text[at:]
    if choice < 5:
        return text[:at] + text[at + 1:]
    if choice == 5:
        return text[:at] + luck.choice("0123456789 /") + text[at + 1:]
    lines = text.splitlines(keepends=True)
    row = luck.randrange(len(lines))
    if choice == 6:
        return "".join(lines[:row] + lines[row:row + 1] * luck.choice((0, 2, 4)) + lines[row + 1:])
    if choice == 7:
        return "".join(luck.sample(lines, len(lines)))
    return text


if __name__ == "__main__":
    unittest.main()
