"""Walks by a table, the fewest ways to the seat, and all settled tables of a small guild."""

from heraldways.choice import first_unsettled, require_told_houses
from heraldways.errors import TooMany
from heraldways.guild import SEAT, require_within

MOST_FOR_TABLES = 5


def walk(table, house):
    require_within([house], len(table))
    require_told_houses(table, len(table))
    gone = [house]
    while gone[-1] != SEAT:
        entry = table[gone[-1]]
        if entry is None:
            return ("stops", gone)
        if entry[1] in gone:
            return ("rings", gone)
        gone.append(entry[1])
    return ("comes", gone)


def nearest(guild):
    counts = [None] * guild.size()
    counts[SEAT] = 0
    reached = [SEAT]
    while len(reached) > 0:
        house = reached.pop(0)
        for neighbour in guild.neighbours(house):
            if counts[neighbour] is None:
                counts[neighbour] = counts[house] + 1
                reached.append(neighbour)
    return counts


def settled_tables(guild):
    if guild.size() > MOST_FOR_TABLES:
        raise TooMany("settled tables are sought for at most 5 houses")
    # In a settled table each entry is its house ahead of a neighbour's entry: the next houses tell the whole table.
    tables = []
    for next_houses in rows_of_next_houses(guild):
        table = table_by(next_houses)
        # A row whose houses ring or go on to a house without a road tells no table of its own.
        if next_houses_of(table) == next_houses and first_unsettled(guild, table) is None:
            tables.append(table)
    return tables


def rows_of_next_houses(guild):
    # The seat has no next house. Each row is followed by its rising ends, so the rows come sorted.
    rows = [[None]]
    for house in range(1, guild.size()):
        rows = rows_with_ends(rows, [None] + guild.neighbours(house))
    return rows


def rows_with_ends(rows, ends):
    longer = []
    for row in rows:
        longer.extend([row + [end] for end in ends])
    return longer


def table_by(next_houses):
    return [road_by(next_houses, house) for house in range(len(next_houses))]


def road_by(next_houses, house):
    road = [house]
    while road[-1] != SEAT:
        next_house = next_houses[road[-1]]
        if next_house is None or next_house in road:
            return None
        road.append(next_house)
    return road


def next_houses_of(table):
    return [None if road is None or len(road) < 2 else road[1] for road in table]
