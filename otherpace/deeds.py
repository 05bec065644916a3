"""Deeds, which turn webs into other webs with the same rounds but for lengths, and chains of them."""

from otherpace.doing import done_of, is_deed_of, made_by, webs_on
from otherpace.webs import check_web


def is_deed(web, thing):
    """Whether any value is a deed for the web, whether it can be done or not."""
    check_web(web)
    return is_deed_of(web, thing)


def can_be_done(web, deed):
    """Whether any value is a deed that can be done."""
    check_web(web)
    return is_deed_of(web, deed) and done_of(web, deed) != ()


def done(web, deed):
    """The web that a deed makes."""
    check_web(web)
    return made_by(web, deed)


def made(web, chain):
    """The web that a chain makes."""
    check_web(web)
    return webs_on(web, chain)[-1]
