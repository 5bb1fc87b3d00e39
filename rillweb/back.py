"""Led back: from the depths of a morning to what was on the day ahead."""

from rillweb.amounts import all_amounts, flow_from, part_moving, parts_by_moves
from rillweb.webs import check_depths, check_place, check_rain, flow_of, gaps_of, leads_of, moves_of


def all_leads(web):
    """All that can be first: tuples of whether the bed ahead is first at each place, True where no two begin."""
    found = [()]
    for parts in web.parts:
        kinds = (False, True) if len(parts) == 2 else (True,)
        found = [leads + (kind,) for leads in found for kind in kinds]
    return found


def led_back(web, depths, leads, moves):
    """The depths ahead of the steps that led to some depths, None where by them other beds were first."""
    earlier = tuple([depth - move for depth, move in zip(depths, moves)])
    return earlier if leads_of(gaps_of(web, earlier)) == leads else None


def before(web, depths, *, rain):
    """The sorted list of all depths that the morning ahead can have had, under the rain of that day."""
    check_depths(web, depths)
    check_rain(web, rain)
    found = []
    for leads in all_leads(web):
        earlier = led_back(web, depths, leads, moves_of(web, flow_of(web, leads, rain)[1]))
        if earlier is not None:
            found.append(earlier)
    return sorted(found)


def rains_between(web, depths, later, *, place):
    """The stretch of all amounts that lead from depths to later ones, falling at a place alone; None where none do."""
    check_depths(web, depths)
    check_depths(web, later)
    check_place(web, place)
    factors = flow_from(web, leads_of(gaps_of(web, depths)), place)[1]
    stretch = all_amounts()
    for at, bed in enumerate(web.beds):
        stretch = part_moving(stretch, bed, factors[at], later[at] - depths[at])
        if stretch is None:
            return None
    return stretch


def before_any(web, depths, *, place):
    """All depths that the morning ahead can have had, whatever fell at a place alone, each with its stretch; sorted."""
    check_depths(web, depths)
    check_place(web, place)
    found = []
    for leads in all_leads(web):
        for stretch, moves in parts_by_moves(web.beds, flow_from(web, leads, place)[1]):
            earlier = led_back(web, depths, leads, moves)
            if earlier is not None:
                found.append((earlier, stretch))
    return sorted(found, key=lambda row: row[0])
