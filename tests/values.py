"""Values of every kind that a caller may pass, for the tests of wrong arguments."""

from pairskept.desks import Desk
from pairskept.errors import BadDesign, BadProgram


def deep_tuple():
    value = ()
    for _ in range(5000):
        value = (value,)
    return value


def odd_values():
    """None of these is a design, a core, a place, an instruction or a program."""
    endless = []
    endless.append(endless)
    return [
        None, True, False, -1, 10 ** 30, -10 ** 30, "", "rr", "fence", "rr wr", [], ["rr"], [("fence",)], {},
        {"rr": True}, {"rr": {"ww": [1]}}, endless, (None,), (True,), (0,), ("",), ("RR",), ((),) * 99, ([],), ({},),
        (("fence",), None), deep_tuple(), BadDesign("x"), BadProgram(None), (BadDesign("x"),),
        Desk((), ((),)), (Desk((), ((),)),),
    ]
