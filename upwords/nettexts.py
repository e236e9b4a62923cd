"""Nets written as texts, and read from them."""

from upwords.errors import NoText
from upwords.kinds import is_written_number
from upwords.nets import is_net

# Of sixty knots no number has three figures.
MOST_FIGURES = 2


def show_net(net):
    return " ".join([show_knot(knot) for knot in net])


def show_knot(knot):
    return ",".join([knot[0]] + [str(lower) for lower in knot[1]])


def read_net(text):
    if not isinstance(text, str):
        raise NoText("this is no text")
    net = tuple([read_knot(part) for part in text.split(" ")])
    if not is_net(net):
        raise NoText("this is no net's text")
    return net


def read_knot(text):
    parts = text.split(",")
    if not all([is_written_number(part, MOST_FIGURES) for part in parts[1:]]):
        raise NoText("this is no knot's text")
    return (parts[0], tuple([int(part) for part in parts[1:]]))
