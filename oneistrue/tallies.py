"""How often a live desk heard each case, and what it awarded there."""

from oneistrue.ledgers import is_files
from oneistrue.quotients import total
from oneistrue.usable import every_case, is_case, need


def need_files(court, files):
    """Refuses what are no files of cases of the court."""
    need(is_files(files) and all([is_case(court, case) for told in files for case in told[:3]]), "files")


def tally_of(court, files):
    need_files(court, files)
    return tuple([len([told for told in files if told[0] == here]) for here in every_case(court)])


def awards_of(court, files):
    need_files(court, files)
    return tuple([total(tuple([told[3] for told in files if told[0] == here])) for here in every_case(court)])
