"""The post: the letters by which the houses of a guild tell one another their roads."""

from heraldways.choice import best_road, may_take, standing
from heraldways.errors import NoLetter
from heraldways.guild import SEAT


def copied(road):
    if road is None:
        return None
    return list(road)


class Post:

    def __init__(self, guild):
        # A twin, since the guild may be changed later; the ways of the twin are those of the post.
        self.guild = guild.twin()
        self.roads = [None] * guild.size()
        self.roads[SEAT] = [SEAT]
        # What was told, what was written and the letters are kept by writer and receiver.
        self.told_last = {}
        self.written_last = {}
        # A key that is given another value keeps its place in the dict, as a letter does in the line.
        self.letters = {}
        # For each house the standings of the roads that it may choose, by the neighbour that told the road:
        # to weigh all of them again at each letter would take too long.
        self.standings = [{} for house in range(guild.size())]
        self.write_to_all(SEAT)

    def road(self, a):
        self.guild.require_houses([a])
        return copied(self.roads[a])

    def table(self):
        return [copied(road) for road in self.roads]

    def told(self, a, b):
        self.guild.require_houses([a, b])
        return copied(self.told_last.get((a, b)))

    def waiting(self):
        return [(pair[0], pair[1], copied(self.letters[pair])) for pair in self.letters]

    def neighbours_now(self, a):
        return self.guild.neighbours(a)

    def carry(self, a, b):
        self.guild.require_houses([a, b])
        if (a, b) not in self.letters:
            raise NoLetter("no letter waits from the one house to the other")
        self.hear(a, b, self.letters.pop((a, b)))
        return self.choose_anew(b)

    def carry_next(self):
        pair = self.first_of_line()
        return self.carry(pair[0], pair[1])

    def settle(self, most):
        carried = 0
        while carried < most and len(self.letters) > 0:
            self.carry_next()
            carried += 1
        return carried

    def fall(self, a, b):
        self.guild.lift_way(a, b)
        self.forget(a, b)
        self.forget(b, a)
        self.choose_anew(min(a, b))
        self.choose_anew(max(a, b))

    def rise(self, a, b):
        self.guild.lay_way(a, b)
        self.write_road(min(a, b), max(a, b))
        self.write_road(max(a, b), min(a, b))

    def first_of_line(self):
        for pair in self.letters:
            return pair
        raise NoLetter("no letter waits")

    def write_road(self, writer, receiver):
        road = self.roads[writer]
        if self.written_last.get((writer, receiver)) == road:
            return
        self.written_last[(writer, receiver)] = road
        self.letters[(writer, receiver)] = road

    def write_to_all(self, writer):
        for receiver in self.guild.neighbours(writer):
            self.write_road(writer, receiver)

    def hear(self, writer, receiver, road):
        self.told_last[(writer, receiver)] = road
        if may_take(self.guild, receiver, road):
            self.standings[receiver][writer] = standing(self.guild, [receiver] + road)
        else:
            self.standings[receiver].pop(writer, None)

    def forget(self, writer, receiver):
        self.letters.pop((writer, receiver), None)
        self.told_last.pop((writer, receiver), None)
        self.written_last.pop((writer, receiver), None)
        self.standings[receiver].pop(writer, None)

    def choose_anew(self, house):
        road = best_road(house, list(self.standings[house].values()))
        if road == self.roads[house]:
            return False
        self.roads[house] = road
        self.write_to_all(house)
        return True
