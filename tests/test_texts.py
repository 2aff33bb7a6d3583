"""Points 104 and 105, and points 1 to 4 for overpasses.nets.texts."""

import copy
import itertools
import random
import re
import unittest

from overpasses.errors import BadLine, BadPlace, BadPrice, OverpassesError, WrongOrder
from overpasses.nets.net import is_net
from overpasses.nets.texts import read_net, write_net

TOP = 1000000
HEAD = "places 5\n"
# Three good lines, so that a faulty one can stand in front of, among and behind others.
GOOD = ["0 1 5 6\n", "1 2 - 8\n", "2 3 - -\n"]

WRITTEN = [
    ((1, []), "places 1\n"),
    ((9, []), "places 9\n"),
    ((10, []), "places 10\n"),
    ((40, []), "places 40\n"),
    ((3, [(0, 2, 5, None)]), "places 3\n0 2 5 -\n"),
    ((3, [(0, 2, None, 5)]), "places 3\n0 2 - 5\n"),
    ((2, [(0, 1, None, None)]), "places 2\n0 1 - -\n"),
    ((2, [(0, 1, 1, TOP)]), "places 2\n0 1 1 1000000\n"),
    ((5, [(0, 1, 5, 6), (1, 2, None, 8), (2, 3, None, None)]), HEAD + "".join(GOOD)),
    ((40, [(0, 39, 10, 20), (9, 10, 1, 2), (38, 39, TOP, None)]),
     "places 40\n0 39 10 20\n9 10 1 2\n38 39 1000000 -\n"),
]


def some_net(rng):
    n = rng.choice([1, 2, 3, 5, 12, 40])
    values = [None, 1, 7, 10, 999, TOP]
    links = []
    for a, b in itertools.combinations(range(n), 2):
        if rng.random() < 0.4:
            links.append((a, b, rng.choice(values), rng.choice(values)))
    return (n, links)


def over(digits, limit):
    """Whether a number is greater than a limit, by its digits alone."""
    return (len(digits), digits) > (len(str(limit)), str(limit))


def line_fault(line, at, n, before):
    """The fault of a line, found by patterns instead of the program's way."""
    number = "(0|[1-9][0-9]*)"
    if at == 0:
        match = re.fullmatch(f"places {number}\n", line)
        if not match:
            return BadLine
        return BadPlace if match[1] == "0" or over(match[1], 40) else None
    match = re.fullmatch(f"{number} {number} (-|0|[1-9][0-9]*) (-|0|[1-9][0-9]*)\n", line)
    if not match:
        return BadLine
    if over(match[1], n - 1) or over(match[2], n - 1):
        return BadPlace
    for value in (match[3], match[4]):
        if value == "0" or value != "-" and over(value, TOP):
            return BadPrice
    pair = (int(match[1]), int(match[2]))
    return WrongOrder if pair[0] >= pair[1] or before is not None and pair <= before else None


def text_fault(text):
    """The first fault of a text and its line, or None."""
    lines = text.splitlines(keepends=True) or [""]
    n, before = 0, None
    for at, line in enumerate(lines):
        error = line_fault(line, at, n, before)
        if error:
            return (error, at)
        if at == 0:
            n = int(line.split()[1])
        else:
            before = tuple(int(part) for part in line.split()[:2])
    return None


class Writing(unittest.TestCase):
    def test_literal_texts(self):
        for net, text in WRITTEN:
            before = copy.deepcopy(net)
            self.assertEqual(write_net(net), text)
            self.assertEqual(net, before)

    def test_the_longest_text(self):
        net = (40, [(a, b, TOP, TOP) for a, b in itertools.combinations(range(40), 2)])
        text = write_net(net)
        self.assertEqual(text.count("\n"), 781)
        self.assertLess(len(text), 20000)
        self.assertEqual(read_net(text), net)


class Reading(unittest.TestCase):
    def fails(self, error, at, text):
        with self.assertRaises(OverpassesError) as caught:
            read_net(text)
        found = (type(caught.exception), caught.exception.at)
        self.assertEqual(found, (error, at), text[:200])

    def line_fails(self, error, line):
        """The line has this fault as each of the lines behind the first one."""
        for k in range(len(GOOD) + 1):
            # The good lines are those of lower pairs only, so the order stays right if the line's is.
            before = HEAD + "".join(GOOD[:k])
            self.fails(error, k + 1, before + line)
            self.fails(error, k + 1, before + line + "4 4 0 0\n")
            self.fails(error, k + 1, before + line + "\n")

    def test_literal_texts(self):
        for net, text in WRITTEN:
            self.assertEqual(read_net(text), net)

    def test_written_texts_give_their_nets_back(self):
        rng = random.Random(1)
        for _ in range(200):
            net = some_net(rng)
            found = read_net(write_net(net))
            self.assertEqual(found, net)
            self.assertIs(type(found), tuple)
            self.assertIs(is_net(found), True)
            self.assertEqual(write_net(found), write_net(net))

    def test_the_net_is_new(self):
        text = "places 3\n0 2 5 -\n"
        read_net(text)[1].append((1, 2, 1, 1))
        self.assertEqual(read_net(text), (3, [(0, 2, 5, None)]))
        read_net("places 3\n")[1].append((1, 2, 1, 1))
        self.assertEqual(read_net("places 3\n"), (3, []))

    def test_the_empty_text_and_empty_lines(self):
        self.fails(BadLine, 0, "")
        self.fails(BadLine, 0, "\n")
        self.fails(BadLine, 0, "\nplaces 3\n")
        self.fails(BadLine, 1, "places 3\n\n")
        self.fails(BadLine, 1, "places 3\n\n0 1 1 1\n")
        self.fails(BadLine, 2, "places 3\n0 1 1 1\n\n")
        self.fails(BadLine, 2, "places 3\n0 1 1 1\n\n\n0 1 1 1\n")

    def test_a_last_line_without_a_newline(self):
        self.fails(BadLine, 0, "places 3")
        self.fails(BadLine, 0, "places 41")
        self.fails(BadLine, 0, "p")
        self.fails(BadLine, 0, " ")
        text = HEAD + "".join(GOOD)
        for k in range(1, len(text)):
            if text[k - 1] != "\n":
                self.fails(BadLine, text[:k].count("\n"), text[:k])
        self.fails(BadLine, 1, "places 3\n0 9 1 1")
        self.fails(BadLine, 1, "places 3\n0 1 0 1")
        self.fails(BadLine, 1, "places 3\n1 0 1 1")

    def test_first_line_is_bad(self):
        for line in ["places", "places ", "places  3", " places 3", "places 3 ", "places 3 4", "3", "3 places",
                     "Places 3", "place 3", "places3", "places 03", "places 00", "places 041", "places +3",
                     "places -3", "places -0", "places -", "places 3.0", "places 1_0", "places three", "places 0x3",
                     "places 3,", "places\n3", "0 1 5 6", "places places 3", "'places 3'", "places 1e1"]:
            self.fails(BadLine, 0, line + "\n")
            self.fails(BadLine, 0, line + "\n0 0 0 0\n")

    def test_link_line_is_bad(self):
        for line in ["", " ", "3", "3 4", "3 4 5", "3 4 5 6 7", "3 4 5 6 ", " 3 4 5 6", "3  4 5 6", "3 4  5 6",
                     "3 4 5  6", "3 4 5 6  ", "03 4 5 6", "3 04 5 6", "3 4 05 6", "3 4 5 06", "00 4 5 6",
                     "3 4 00 6", "3 4 5 00", "+3 4 5 6", "3 +4 5 6", "3 4 +5 6", "3 4 5 +6", "-3 4 5 6", "3 -4 5 6",
                     "3 4 -5 6", "3 4 5 -6", "-0 4 5 6", "3 4 -0 6", "- 4 5 6", "3 - 5 6", "- - - -", "3 4 -- 6",
                     "3 4 5 --", "3 4 -", "3 4 - - -", "3 4 None 6", "3 4 5 None", "a 4 5 6", "3 b 5 6", "3 4 c 6",
                     "3 4 5 d", "3 4 5.0 6", "3 4 5 6.", "3 4 1_0 6", "3,4,5,6", "3 4 5 1e3", "3 4 5 6 #", "places 5",
                     "3 4 *5 6", "3 4 0x5 6", "3 4 5 6 -", "(3 4 5 6)", "3 4 .5 6", "3\n4 5 6"]:
            self.line_fails(BadLine, line + "\n")

    def test_wrong_numbers_of_places(self):
        for n in ["0", "41", "42", "99", "100", "400", "1000", "4294967295", "4294967296"]:
            self.fails(BadPlace, 0, f"places {n}\n")
            self.fails(BadPlace, 0, f"places {n}\n1 0 0 0\n")
            self.fails(BadPlace, 0, f"places {n}\nx")
        for n in range(1, 41):
            self.assertEqual(read_net(f"places {n}\n"), (n, []))

    def test_places_that_do_not_exist(self):
        for bad in ["5", "6", "10", "40", "41", "50", "4294967296"]:
            self.line_fails(BadPlace, f"{bad} 4 5 6\n")
            self.line_fails(BadPlace, f"3 {bad} 5 6\n")
            self.line_fails(BadPlace, f"{bad} {bad} 5 6\n")
        for n in range(1, 41):
            self.fails(BadPlace, 1, f"places {n}\n0 {n} 1 1\n")
            if n > 1:
                self.assertEqual(read_net(f"places {n}\n0 {n - 1} 1 1\n"), (n, [(0, n - 1, 1, 1)]))

    def test_wrong_prices(self):
        for bad in ["0", "1000001", "1000010", "2000000", "9999999", "10000000", "4294967295"]:
            for good in ["1", "1000000", "-"]:
                self.line_fails(BadPrice, f"3 4 {bad} {good}\n")
                self.line_fails(BadPrice, f"3 4 {good} {bad}\n")
            self.line_fails(BadPrice, f"3 4 {bad} {bad}\n")
        for good in ["1", "9", "10", "999999", "1000000"]:
            self.assertEqual(read_net(f"{HEAD}3 4 {good} -\n"), (5, [(3, 4, int(good), None)]))
            self.assertEqual(read_net(f"{HEAD}3 4 - {good}\n"), (5, [(3, 4, None, int(good))]))

    def test_places_in_the_wrong_order(self):
        for pair in ["3 3", "4 4", "4 3", "4 0", "1 0", "0 0"]:
            self.line_fails(WrongOrder, f"{pair} 5 6\n")

    def test_pairs_in_the_wrong_order(self):
        head = HEAD + "0 3 1 1\n1 3 1 1\n"
        for pair in ["0 1", "0 3", "0 4", "1 2", "1 3"]:
            self.fails(WrongOrder, 3, f"{head}{pair} 5 6\n")
            self.fails(WrongOrder, 3, f"{head}{pair} 5 6\n3 4 0 0\n")
            self.fails(WrongOrder, 4, f"{head}2 4 1 1\n{pair} 5 6\n")
        for pair in ["1 4", "2 3", "2 4", "3 4"]:
            a, b = pair.split()
            self.assertEqual(read_net(f"{head}{pair} 5 6\n")[1][2], (int(a), int(b), 5, 6))
        # Pairs are compared as numbers: as texts, these would stand in the wrong order.
        text = "places 11\n1 2 1 1\n1 10 1 1\n2 3 1 1\n9 10 1 1\n"
        self.assertEqual(write_net(read_net(text)), text)
        self.fails(WrongOrder, 2, "places 11\n1 10 1 1\n1 2 1 1\n")

    def test_several_faults_in_one_line(self):
        self.line_fails(BadLine, "09 9 0 0\n")
        self.line_fails(BadLine, "9 9 0 00\n")
        self.line_fails(BadLine, "9 9 0 0 \n")
        self.line_fails(BadLine, "4 3 0 +0\n")
        self.line_fails(BadPlace, "9 9 0 0\n")
        self.line_fails(BadPlace, "9 3 0 5\n")
        self.line_fails(BadPlace, "0 5 1000001 0\n")
        self.line_fails(BadPlace, "5 0 5 6\n")
        self.line_fails(BadPrice, "3 3 0 5\n")
        self.line_fails(BadPrice, "4 3 5 0\n")
        self.line_fails(BadPrice, "0 0 1000001 -\n")
        self.fails(BadPrice, 2, HEAD + "0 1 5 6\n0 1 0 6\n")
        self.fails(BadPlace, 2, HEAD + "0 1 5 6\n0 5 0 6\n")
        self.fails(BadLine, 0, "places 00\n")
        self.fails(BadLine, 0, "places 41 \n")

    def test_faults_in_several_lines(self):
        faults = [("x\n", BadLine), ("9 9 1 1\n", BadPlace), ("0 4 0 1\n", BadPrice), ("4 0 1 1\n", WrongOrder)]
        for (first, error), (second, _) in itertools.product(faults, repeat=2):
            self.fails(error, 1, HEAD + first + second)
            self.fails(error, 2, HEAD + "0 1 5 6\n" + first + second)
            self.fails(error, 2, HEAD + "0 1 5 6\n" + first + "1 2 5 6\n" + second)
            self.fails(error, 1, HEAD + first + second[:-1])
        for line, _ in faults:
            self.fails(BadPlace, 0, "places 0\n" + line)
            self.fails(BadLine, 0, "places x\n" + line)

    def test_digits_of_any_length(self):
        for length in list(range(2, 30)) + [300, 4299, 4300, 4301, 5000, 9000]:
            for digits in ["1" + "0" * length, "9" * (length + 7), "4" * (length + 1)]:
                self.fails(BadPlace, 0, f"places {digits}\n")
                self.fails(BadPlace, 1, f"places 5\n{digits} 4 1 1\n")
                self.fails(BadPlace, 1, f"places 5\n0 {digits} 0 0\n")
                self.fails(BadPlace, 1, f"places 5\n0 {digits} {digits} 1\n")
                self.fails(BadLine, 0, f"places 0{digits}\n")
                self.fails(BadLine, 1, f"places 5\n0{digits} 4 1 1\n")
                self.fails(BadLine, 1, f"places 5\n0 1 1 0{digits}\n")
                self.fails(BadLine, 1, f"places 5\n0 1 1 {digits}")
                if length > 6:
                    self.fails(BadPrice, 1, f"places 5\n0 1 {digits} 1\n")
                    self.fails(BadPrice, 1, f"places 5\n1 0 - {digits}\n")

    def test_long_texts(self):
        self.fails(BadLine, 0, "\n" * 20000)
        self.fails(BadLine, 0, " " * 20000)
        self.fails(BadLine, 0, "places " + "0" * 19992 + "\n")
        self.fails(BadLine, 1, "places 3\n" + "-" * 19000)
        self.fails(WrongOrder, 2, "places 3\n" + "0 1 1 1\n" * 2400)
        self.fails(BadPlace, 0, "places " + "9" * 19992 + "\n")

    def test_changed_texts(self):
        rng = random.Random(2)
        signs = "0123456789- \n+.axps"
        counts = {}
        for _ in range(20000):
            text = write_net(rng.choice(WRITTEN)[0])
            for _ in range(rng.choice([1, 1, 1, 2, 3])):
                at = rng.randrange(len(text) + 1)
                text = text[:at] + rng.choice(["", rng.choice(signs)]) + text[at + rng.choice([0, 1]):]
            fault = text_fault(text)
            counts[fault and fault[0]] = counts.get(fault and fault[0], 0) + 1
            if fault:
                self.fails(fault[0], fault[1], text)
            else:
                self.assertEqual(write_net(read_net(text)), text)
        for kind in (None, BadLine, BadPlace, BadPrice, WrongOrder):
            self.assertGreater(counts[kind], 20)


if __name__ == "__main__":
    unittest.main()
