"""The guild: its houses and ways, and what its houses like, wish and shun."""

from heraldways.errors import NoHouse, NoRoad, NoWay, WayThere

SEAT = 0
MOST_HOUSES = 60


def require_within(houses, count):
    # Asked of every road that is weighed: the least and the greatest tell it faster than each by itself.
    if min(houses, default=SEAT) < 0 or max(houses, default=SEAT) >= count:
        raise NoHouse("no house of the guild")


class Guild:

    def __init__(self, size):
        if size < 1 or size > MOST_HOUSES:
            raise NoHouse("a guild has 1 to 60 houses")
        self.house_count = size
        # A way is kept in both directions, so that no question has to order its two houses.
        self.ways = {}
        self.likings = {}
        self.shuns = {}
        # The keys are tuples of houses, since whoever hands a road in may change that list later.
        self.wish_ranks = {}

    def size(self):
        return self.house_count

    def neighbours(self, a):
        self.require_houses([a])
        return self.houses_paired(self.ways, a)

    def has_way(self, a, b):
        self.require_houses([a, b])
        return (a, b) in self.ways

    def lay_way(self, a, b):
        self.require_two_houses(a, b)
        if (a, b) in self.ways:
            raise WayThere("a way lies between the two houses")
        self.ways[(a, b)] = True
        self.ways[(b, a)] = True

    def lift_way(self, a, b):
        self.require_two_houses(a, b)
        if (a, b) not in self.ways:
            raise NoWay("no way lies between the two houses")
        self.ways.pop((a, b))
        self.ways.pop((b, a))

    def like(self, a, b, rank):
        self.require_houses([a, b])
        self.likings[(a, b)] = rank

    def liking(self, a, b):
        self.require_houses([a, b])
        return self.likings.get((a, b), 0)

    def shun(self, a, b):
        self.require_two_houses(a, b)
        self.shuns[(a, b)] = True

    def shunned(self, a):
        self.require_houses([a])
        return self.houses_paired(self.shuns, a)

    def wish(self, road, rank):
        self.require_long_road(road)
        self.wish_ranks[tuple(road)] = rank

    def wishes(self):
        return [(list(road), self.wish_ranks[road]) for road in sorted(self.wish_ranks)]

    def rank_of(self, road):
        self.require_long_road(road)
        wish_rank = self.wish_ranks.get(tuple(road))
        # A wish of rank nought still goes ahead of the liking.
        if wish_rank is None:
            return self.liking(road[0], road[1])
        return wish_rank

    def houses_paired(self, pairs, a):
        return [b for b in range(self.house_count) if (a, b) in pairs]

    def twin(self):
        other = Guild(self.house_count)
        other.ways.update(self.ways)
        other.likings.update(self.likings)
        other.shuns.update(self.shuns)
        other.wish_ranks.update(self.wish_ranks)
        return other

    def shuns_one_of(self, a, houses):
        return any([(a, b) in self.shuns for b in houses])

    def require_houses(self, houses):
        require_within(houses, self.house_count)

    def require_two_houses(self, a, b):
        self.require_houses([a, b])
        if a == b:
            raise NoHouse("two different houses are wanted")

    def require_long_road(self, road):
        # The houses are looked at first: NoHouse goes ahead of NoRoad.
        self.require_houses(road)
        if len(road) < 2:
            raise NoRoad("a road of two houses or more is wanted")
        if road[-1] != SEAT:
            raise NoRoad("a road ends at the seat")
        if len(set(road)) != len(road):
            raise NoRoad("a road holds no house twice")
