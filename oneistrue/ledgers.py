"""Sums over files of a live desk."""

from oneistrue.kinds import is_number, is_quotient, is_tuple_of
from oneistrue.quotients import total
from oneistrue.usable import need


def is_file(thing):
    """A tuple (here, plea, reply, award, wrong): three numbers and two quotients."""
    if not is_tuple_of(5, thing):
        return False
    return all([is_number(part) for part in thing[:3]]) and all([is_quotient(part) for part in thing[3:]])


def is_files(thing):
    return isinstance(thing, tuple) and all([is_file(part) for part in thing])


def paid_of(files):
    need(is_files(files), "files")
    return total(tuple([told[3] for told in files]))


def wrong_in(files):
    need(is_files(files), "files")
    return total(tuple([told[4] for told in files]))


def lies_in(files):
    need(is_files(files), "files")
    return len([told for told in files if told[1] != told[0]]), len([told for told in files if told[2] != told[0]])
