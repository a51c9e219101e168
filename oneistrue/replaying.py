"""A live desk made anew from its log."""

from oneistrue.live import LiveDesk
from oneistrue.usable import need


def replayed(court, log):
    need(isinstance(log, tuple), "log")
    desk = LiveDesk(court)
    for event in log:
        desk.go(event)
    return desk
