"""Points 1 to 4 and 17: houses, ways, likings, shunned houses, wishes and ranks."""

import itertools
import unittest

from heraldways.errors import NoHouse, NoRoad, NoWay, WayThere
from heraldways.guild import Guild
from tests.helpers import HUGE, LONG_RANK, RefusalCase, all_of, busy_guild, not_houses


class GuildCase(RefusalCase):

    def refused(self, guild, error, call, *arguments):
        """The call is refused with this very error, and changes nothing."""
        before = all_of(guild)
        self.refused_with(error, call, *arguments)
        self.assertEqual(all_of(guild), before)


class Sizes(GuildCase):

    def test_every_size_from_1_to_60(self):
        for size in range(1, 61):
            self.assertEqual(Guild(size).size(), size)

    def test_other_sizes_are_refused(self):
        for size in [0, 61, 62, 100, -1, -5, -60, HUGE, -HUGE]:
            self.refused_with(NoHouse, Guild, size)

    def test_at_first_there_is_nothing(self):
        for size in [1, 4, 60]:
            guild = Guild(size)
            told = all_of(guild)
            self.assertEqual(told["neighbours"], [[]] * size)
            self.assertEqual(told["ways"], [False] * size * size)
            self.assertEqual(told["likings"], [0] * size * size)
            self.assertEqual(told["shunned"], [[]] * size)
            self.assertEqual(told["wishes"], [])

    def test_a_guild_of_the_seat_alone(self):
        guild = Guild(1)
        self.assertEqual(guild.neighbours(0), [])
        self.assertIs(guild.has_way(0, 0), False)
        self.refused(guild, NoHouse, guild.lay_way, 0, 1)
        self.refused(guild, NoHouse, guild.lay_way, 0, 0)
        self.refused(guild, NoRoad, guild.wish, [0], 1)


class Ways(GuildCase):

    def test_a_way_is_gone_in_both_directions(self):
        for a, b in [(1, 2), (2, 1)]:
            guild = Guild(4)
            guild.lay_way(a, b)
            self.assertIs(guild.has_way(1, 2), True)
            self.assertIs(guild.has_way(2, 1), True)
            self.assertEqual([guild.neighbours(house) for house in range(4)], [[], [2], [1], []])

    def test_a_way_between_two_houses_is_none_between_others(self):
        guild = Guild(4)
        guild.lay_way(0, 3)
        there = [pair for pair in itertools.product(range(4), range(4)) if guild.has_way(*pair)]
        self.assertEqual(there, [(0, 3), (3, 0)])

    def test_neighbours_rise_whatever_the_order_of_laying(self):
        for order in itertools.permutations([0, 1, 3, 4]):
            guild = Guild(5)
            for turn, house in enumerate(order):
                guild.lay_way(*((2, house) if turn % 2 else (house, 2)))
            self.assertEqual(guild.neighbours(2), [0, 1, 3, 4])

    def test_neighbours_rise_as_numbers(self):
        guild = Guild(60)
        for house in [59, 10, 9, 2, 33, 0]:
            guild.lay_way(house, 1)
        self.assertEqual(guild.neighbours(1), [0, 2, 9, 10, 33, 59])

    def test_all_ways_of_the_greatest_guild(self):
        guild = Guild(60)
        for a, b in itertools.combinations(range(60), 2):
            guild.lay_way(b, a)
        for house in range(60):
            self.assertEqual(guild.neighbours(house), [other for other in range(60) if other != house])
            self.assertIs(guild.has_way(house, house), False)

    def test_a_house_is_no_neighbour_of_itself(self):
        guild = busy_guild()
        for house in range(5):
            self.assertIs(guild.has_way(house, house), False)
            self.assertNotIn(house, guild.neighbours(house))

    def test_a_lifted_way_is_gone_and_can_be_laid_again(self):
        for a, b in [(1, 3), (3, 1)]:
            guild = busy_guild()
            guild.lift_way(a, b)
            self.assertIs(guild.has_way(1, 3), False)
            self.assertIs(guild.has_way(3, 1), False)
            self.assertEqual(guild.neighbours(1), [0])
            self.assertEqual(guild.neighbours(3), [])
            self.assertEqual(guild.neighbours(2), [4])
            self.refused(guild, NoWay, guild.lift_way, 1, 3)
            guild.lay_way(b, a)
            self.assertEqual(all_of(guild), all_of(busy_guild()))

    def test_a_second_way_is_refused(self):
        guild = busy_guild()
        for a, b in [(1, 3), (3, 1), (0, 1), (1, 0), (4, 2)]:
            self.refused(guild, WayThere, guild.lay_way, a, b)

    def test_lifting_where_no_way_lies_is_refused(self):
        guild = busy_guild()
        for a, b in [(0, 2), (2, 0), (3, 4), (1, 4)]:
            self.refused(guild, NoWay, guild.lift_way, a, b)

    def test_no_way_from_a_house_to_itself(self):
        guild = busy_guild()
        for house in range(5):
            self.refused(guild, NoHouse, guild.lay_way, house, house)
            self.refused(guild, NoHouse, guild.lift_way, house, house)

    def test_what_is_no_house_is_refused(self):
        guild = busy_guild()
        for number in not_houses(5):
            self.refused(guild, NoHouse, guild.neighbours, number)
            for call in [guild.has_way, guild.lay_way, guild.lift_way]:
                self.refused(guild, NoHouse, call, number, 1)
                self.refused(guild, NoHouse, call, 1, number)
                self.refused(guild, NoHouse, call, number, number)

    def test_ways_leave_the_rest_as_it_is(self):
        guild = busy_guild()
        before = all_of(guild)
        guild.lay_way(0, 4)
        guild.lift_way(0, 4)
        self.assertEqual(all_of(guild), before)


class Likings(GuildCase):

    def test_a_liking_goes_one_way(self):
        guild = Guild(3)
        guild.like(1, 2, 5)
        self.assertEqual(guild.liking(1, 2), 5)
        self.assertEqual(guild.liking(2, 1), 0)
        self.assertEqual(guild.liking(1, 0), 0)

    def test_a_house_likes_itself_and_the_seat_likes_too(self):
        guild = Guild(3)
        guild.like(2, 2, -4)
        guild.like(0, 1, 6)
        guild.like(0, 0, 8)
        self.assertEqual([guild.liking(2, 2), guild.liking(0, 1), guild.liking(0, 0)], [-4, 6, 8])
        self.assertEqual(guild.liking(1, 1), 0)

    def test_the_newest_takes_the_place(self):
        guild = Guild(3)
        for rank in [5, -3, 0, 7, 7, 1]:
            guild.like(1, 2, rank)
            self.assertEqual(guild.liking(1, 2), rank)

    def test_ranks_of_60_figures_and_more(self):
        guild = Guild(2)
        for rank in [LONG_RANK, -LONG_RANK, LONG_RANK - 1, LONG_RANK + 1, -LONG_RANK * 10]:
            guild.like(1, 0, rank)
            self.assertEqual(guild.liking(1, 0), rank)
            self.assertEqual(guild.rank_of([1, 0]), rank)

    def test_liking_needs_no_way(self):
        guild = Guild(3)
        guild.like(1, 2, 5)
        self.assertIs(guild.has_way(1, 2), False)
        self.assertEqual(guild.neighbours(1), [])

    def test_what_is_no_house_is_refused(self):
        guild = busy_guild()
        for number in not_houses(5):
            for pair in [(number, 1), (1, number), (number, number)]:
                self.refused(guild, NoHouse, guild.like, *pair, 9)
                self.refused(guild, NoHouse, guild.liking, *pair)


class Shunned(GuildCase):

    def test_shunned_rises_whatever_the_order(self):
        for order in itertools.permutations([0, 1, 3, 4]):
            guild = Guild(5)
            for house in order:
                guild.shun(2, house)
            self.assertEqual(guild.shunned(2), [0, 1, 3, 4])

    def test_shunned_rises_as_numbers(self):
        guild = Guild(60)
        for house in [10, 9, 59, 2]:
            guild.shun(1, house)
        self.assertEqual(guild.shunned(1), [2, 9, 10, 59])

    def test_shunning_goes_one_way(self):
        guild = Guild(3)
        guild.shun(1, 2)
        self.assertEqual([guild.shunned(house) for house in range(3)], [[], [2], []])

    def test_shunned_again_stays_once(self):
        guild = Guild(3)
        guild.shun(1, 2)
        guild.shun(1, 2)
        self.assertEqual(guild.shunned(1), [2])

    def test_the_seat_shuns_and_is_shunned(self):
        guild = Guild(3)
        guild.shun(0, 2)
        guild.shun(1, 0)
        self.assertEqual([guild.shunned(house) for house in range(3)], [[2], [0], []])

    def test_no_house_shuns_itself(self):
        guild = busy_guild()
        for house in range(5):
            self.refused(guild, NoHouse, guild.shun, house, house)

    def test_what_is_no_house_is_refused(self):
        guild = busy_guild()
        for number in not_houses(5):
            self.refused(guild, NoHouse, guild.shunned, number)
            for pair in [(number, 1), (1, number), (number, number)]:
                self.refused(guild, NoHouse, guild.shun, *pair)


class Wishes(GuildCase):

    def test_a_wish_is_of_one_road(self):
        guild = Guild(4)
        guild.wish([2, 1, 0], 5)
        self.assertEqual(guild.rank_of([2, 1, 0]), 5)
        for road in [[2, 0], [1, 0], [2, 3, 0], [2, 1, 3, 0], [3, 2, 1, 0], [1, 2, 0]]:
            self.assertEqual(guild.rank_of(road), 0)

    def test_rank_is_the_wish_else_the_liking_else_nought(self):
        guild = Guild(4)
        self.assertEqual(guild.rank_of([3, 1, 2, 0]), 0)
        guild.like(3, 1, -8)
        self.assertEqual(guild.rank_of([3, 1, 2, 0]), -8)
        self.assertEqual(guild.rank_of([3, 1, 0]), -8)
        guild.wish([3, 1, 2, 0], 2)
        self.assertEqual(guild.rank_of([3, 1, 2, 0]), 2)
        self.assertEqual(guild.rank_of([3, 1, 0]), -8)
        guild.like(3, 1, 50)
        self.assertEqual(guild.rank_of([3, 1, 2, 0]), 2)
        self.assertEqual(guild.rank_of([3, 1, 0]), 50)

    def test_the_liking_is_the_first_house_s_for_the_next(self):
        guild = Guild(4)
        for rank, (a, b) in enumerate([(1, 3), (1, 2), (2, 0), (3, 0), (3, 3), (1, 0), (0, 3)], start=1):
            guild.like(a, b, rank * rank)
        self.assertEqual(guild.rank_of([3, 1, 2, 0]), 0)
        guild.like(3, 1, 100)
        self.assertEqual(guild.rank_of([3, 1, 2, 0]), 100)

    def test_a_wish_of_nought_goes_ahead_of_the_liking(self):
        guild = Guild(3)
        guild.like(1, 0, 5)
        guild.wish([1, 0], 0)
        self.assertEqual(guild.rank_of([1, 0]), 0)
        self.assertEqual(guild.wishes(), [([1, 0], 0)])

    def test_the_newest_takes_the_place(self):
        guild = Guild(3)
        for rank in [5, -1, 0, 3, 3]:
            guild.wish([2, 1, 0], rank)
            self.assertEqual(guild.rank_of([2, 1, 0]), rank)
            self.assertEqual(guild.wishes(), [([2, 1, 0], rank)])

    def test_ranks_of_60_figures_and_more(self):
        guild = Guild(2)
        for rank in [LONG_RANK, -LONG_RANK, LONG_RANK - 1, LONG_RANK + 1, -LONG_RANK * 10]:
            guild.wish([1, 0], rank)
            self.assertEqual(guild.rank_of([1, 0]), rank)
            self.assertEqual(guild.wishes(), [([1, 0], rank)])

    def test_a_road_through_all_houses(self):
        guild = Guild(60)
        road = list(range(59, -1, -1))
        guild.like(59, 58, 4)
        self.assertEqual(guild.rank_of(road), 4)
        guild.wish(road, 9)
        self.assertEqual(guild.rank_of(road), 9)
        self.assertEqual(guild.wishes(), [(road, 9)])

    def test_wishes_go_by_their_houses(self):
        roads = [[1, 0], [1, 2, 0], [1, 2, 10, 0], [1, 10, 0], [2, 0], [2, 1, 0], [2, 9, 1, 0],
                 [2, 10, 0], [9, 0], [10, 0], [10, 2, 0]]
        for shift in range(len(roads)):
            guild = Guild(12)
            for rank, road in enumerate(roads[shift:] + roads[:shift]):
                guild.wish(road, -rank)
            found = guild.wishes()
            self.assertEqual([road for road, rank in found], roads)
            self.assertEqual(dict((tuple(road), rank) for road, rank in found)[tuple(roads[shift])], 0)

    def test_a_wish_said_again_keeps_the_order(self):
        guild = Guild(3)
        guild.wish([1, 0], 1)
        guild.wish([2, 0], 2)
        guild.wish([1, 0], 3)
        self.assertEqual(guild.wishes(), [([1, 0], 3), ([2, 0], 2)])

    def test_the_kinds_of_wishes(self):
        guild = Guild(3)
        guild.wish([2, 1, 0], 4)
        found = guild.wishes()
        self.assertIs(type(found), list)
        self.assertIs(type(found[0]), tuple)
        self.assertIs(type(found[0][0]), list)

    def test_a_wish_needs_no_ways(self):
        guild = Guild(3)
        guild.wish([2, 1, 0], 4)
        self.assertEqual([guild.neighbours(house) for house in range(3)], [[], [], []])

    def test_what_is_no_long_road_is_refused(self):
        guild = busy_guild()
        short = [[], [0], [3]]
        not_to_the_seat = [[1, 2], [0, 1], [2, 0, 1], [3, 1, 2]]
        a_house_twice = [[0, 0], [0, 1, 0], [1, 1, 0], [1, 2, 1, 0], [1, 0, 2, 0], [3, 2, 2, 0], [1, 1]]
        for road in short + not_to_the_seat + a_house_twice:
            self.refused(guild, NoRoad, guild.wish, road, 1)
            self.refused(guild, NoRoad, guild.rank_of, road)

    def test_no_house_goes_ahead_of_no_road(self):
        guild = busy_guild()
        for number in not_houses(5):
            roads = [[number], [number, 0], [1, number, 0], [1, number], [1, 1, number, 0], [0, 0, number],
                     [number, number], [1, 2, number, number, 3]]
            for road in roads:
                self.refused(guild, NoHouse, guild.wish, road, 1)
                self.refused(guild, NoHouse, guild.rank_of, road)


class NothingIsShared(GuildCase):

    def test_a_list_that_is_handed_back_is_fresh(self):
        guild = busy_guild()
        before = all_of(guild)
        guild.neighbours(1).append(4)
        guild.neighbours(1).clear()
        guild.shunned(2).append(3)
        guild.shunned(2).clear()
        guild.wishes()[0][0].append(2)
        guild.wishes()[0][0].clear()
        guild.wishes().clear()
        self.assertEqual(all_of(guild), before)

    def test_what_was_handed_back_stays_as_it_was(self):
        guild = busy_guild()
        near, away, wished = guild.neighbours(1), guild.shunned(2), guild.wishes()
        guild.lay_way(1, 4)
        guild.shun(2, 0)
        guild.wish([1, 0], 4)
        guild.wish([3, 1, 0], 8)
        self.assertEqual((near, away, wished), ([0, 3], [4], [([3, 1, 0], -2)]))

    def test_a_road_that_is_handed_in_is_neither_changed_nor_kept(self):
        guild = Guild(4)
        road = [2, 1, 0]
        guild.wish(road, 5)
        self.assertEqual(guild.rank_of(road), 5)
        self.assertEqual(road, [2, 1, 0])
        road[0] = 3
        self.assertEqual(guild.rank_of([2, 1, 0]), 5)
        self.assertEqual(guild.rank_of([3, 1, 0]), 0)
        self.assertEqual(guild.wishes(), [([2, 1, 0], 5)])

    def test_two_guilds_know_nothing_of_each_other(self):
        one, other = Guild(5), Guild(5)
        one.lay_way(0, 1)
        one.like(1, 2, 3)
        one.shun(1, 2)
        one.wish([1, 0], 4)
        self.assertEqual(all_of(other), all_of(Guild(5)))
        before = all_of(one)
        other.lay_way(1, 0)
        other.lift_way(1, 0)
        other.like(1, 2, 9)
        other.shun(1, 3)
        other.wish([1, 0], 9)
        self.assertEqual(all_of(one), before)

    def test_asking_changes_nothing(self):
        guild = busy_guild()
        before = all_of(guild)
        guild.rank_of([4, 2, 0])
        guild.rank_of([1, 3, 0])
        guild.has_way(0, 2)
        self.assertEqual(all_of(guild), before)


if __name__ == "__main__":
    unittest.main()
