"""Nets as texts (points 104 and 105)."""

from overpasses.errors import BadLine, BadPlace, BadPrice, WrongOrder
from overpasses.nets.net import MOST_PLACES, is_price


def write_net(net):
    """Returns the text of a net."""
    n, links = net
    lines = [f"places {n}\n"]
    for a, b, there, back in links:
        lines.append(f"{a} {b} {_price_text(there)} {_price_text(back)}\n")
    return "".join(lines)


def read_net(text):
    """Returns the net of a text, or raises its first fault at its line."""
    lines = text.split("\n")
    unended = lines.pop()
    if not lines:
        raise BadLine(0)
    n = _read_places(lines[0])
    links = []
    before = (0, 0)
    for at in range(1, len(lines)):
        link = _read_link(lines[at], at, n, before)
        before = (link[0], link[1])
        links.append(link)
    if unended:
        raise BadLine(len(lines))
    return (n, links)


def _price_text(value):
    """Returns how a price is written."""
    return "-" if value is None else str(value)


def _read_places(line):
    """Returns the number of places that the first line tells."""
    parts = line.split(" ")
    if len(parts) != 2 or parts[0] != "places" or not _is_number(parts[1]):
        raise BadLine(0)
    n = _number(parts[1])
    if not 1 <= n <= MOST_PLACES:
        raise BadPlace(0)
    return n


def _read_link(line, at, n, before):
    """Returns the link of a line, which comes after a pair of places."""
    parts = line.split(" ")
    if not _is_link_line(parts):
        raise BadLine(at)
    a, b = _number(parts[0]), _number(parts[1])
    if a >= n or b >= n:
        raise BadPlace(at)
    there, back = _read_price(parts[2]), _read_price(parts[3])
    if not is_price(there) or not is_price(back):
        raise BadPrice(at)
    if a >= b or (a, b) <= before:
        raise WrongOrder(at)
    return (a, b, there, back)


def _is_link_line(parts):
    """Tells whether the parts are two numbers and two numbers or signs of a shut way."""
    if len(parts) != 4:
        return False
    for part in parts[:2]:
        if not _is_number(part):
            return False
    for part in parts[2:]:
        if part != "-" and not _is_number(part):
            return False
    return True


def _is_number(part):
    """Tells whether a part consists of digits without a leading zero."""
    return part.isdigit() and (part == "0" or not part.startswith("0"))


def _number(digits):
    """Returns the number, or some other one above all limits in place of a long one."""
    # Python refuses to read a number of some thousand digits. Eight digits
    # without a leading zero are above every limit already.
    return int(digits[:8])


def _read_price(part):
    """Returns the price that a part of a line tells."""
    return None if part == "-" else _number(part)
