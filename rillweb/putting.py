"""Webs put together: a web cut at a place, and two webs joined by pipes."""

from rillweb.errors import NoPlace, NoWeb
from rillweb.shares import Share
from rillweb.webs import MOST_BEDS, MOST_PLACES, Web, beds_from, is_place
from rillweb.wholes import is_between


def cut(web, place):
    """The web in which all places from a number on are lakes."""
    if not is_between(place, 0, web.many):
        raise NoPlace(place)
    beds = [bed for bed in web.beds if bed[0] < place]
    return Web(web.many, beds, web.parts[:place] + [()] * (web.many - place))


def joined(one, other, *, pipes):
    """The web of two webs, of which some lakes of the one go on by pipes to places of the other one."""
    many = one.many + other.many
    if not are_pipes(one, other, pipes) or many > MOST_PLACES:
        raise NoWeb("parts")
    if len(one.beds) + len(other.beds) + len(pipes) > MOST_BEDS:
        raise NoWeb("parts")
    piped = [(lake, one.many + place, Share(-1), Share(10 ** 40)) for lake, place in pipes]
    moved = [(start + one.many, finish + one.many, low, high) for start, finish, low, high in other.beds]
    lakes = [lake for lake, _ in pipes]
    parts = [(1,) if place in lakes else told for place, told in enumerate(one.parts)]
    return Web(many, sorted(one.beds + piped, key=lambda bed: bed[0]) + moved, parts + other.parts)


def are_pipes(one, other, things):
    """Whether a thing of any kind is a list of pipes from lakes, all unlike, of the one web to the other one."""
    if not isinstance(things, list) or not all([is_pipe(one, other, thing) for thing in things]):
        return False
    return len(set([lake for lake, _ in things])) == len(things)


def is_pipe(one, other, thing):
    """Whether a thing of any kind is a pipe from a lake of the one web to a place of the other one."""
    if not isinstance(thing, tuple) or len(thing) != 2:
        return False
    lake, place = thing
    return is_place(one, lake) and not beds_from(one, lake) and is_place(other, place)
