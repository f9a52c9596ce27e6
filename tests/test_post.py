"""Points 8 to 12 and 18: letters, the line in which they wait, ways that fall and rise."""

import itertools
import unittest

from heraldways.errors import NoHouse, NoLetter, NoWay, WayThere
from heraldways.guild import Guild
from heraldways.post import Post
from tests.helpers import (Dice, RefusalCase, all_of, all_of_post, busy_guild, full_guild, guild_with_ways,
                           not_houses, plainly_chosen, restless_guild, thrown_guild)


class PlainPost:
    """Points 8 to 12, word by word, for a guild that is not changed meanwhile."""

    def __init__(self, guild):
        self.guild = guild
        self.houses = range(guild.size())
        self.ways = [{a, b} for a, b in itertools.combinations(self.houses, 2) if guild.has_way(a, b)]
        self.roads = [None for house in self.houses]
        self.roads[0] = [0]
        self.told, self.wrote, self.line = {}, {}, []
        for near in self.near(0):
            self.write(0, near)

    def near(self, house):
        return [other for other in self.houses if {house, other} in self.ways]

    def write(self, writer, receiver):
        road = self.roads[writer]
        if self.wrote.get((writer, receiver)) == road:
            return
        self.wrote[writer, receiver] = road
        for place, letter in enumerate(self.line):
            if letter[:2] == (writer, receiver):
                self.line[place] = (writer, receiver, road)
                return
        self.line.append((writer, receiver, road))

    def choose(self, house):
        road = plainly_chosen(self.guild, house, [self.told.get((near, house)) for near in self.near(house)])
        if road == self.roads[house]:
            return False
        self.roads[house] = road
        for near in self.near(house):
            self.write(house, near)
        return True

    def carry(self, place):
        writer, receiver, road = self.line.pop(place)
        self.told[writer, receiver] = road
        return self.choose(receiver)

    def fall(self, a, b):
        self.ways.remove({a, b})
        self.line = [letter for letter in self.line if set(letter[:2]) != {a, b}]
        for pair in [(a, b), (b, a)]:
            self.told.pop(pair, None)
            self.wrote.pop(pair, None)
        for house in sorted([a, b]):
            self.choose(house)

    def rise(self, a, b):
        self.ways.append({a, b})
        lesser, greater = sorted([a, b])
        self.write(lesser, greater)
        self.write(greater, lesser)

    def all_of(self):
        return {
            "table": self.roads,
            "roads": self.roads,
            "told": [self.told.get(pair) for pair in itertools.product(self.houses, self.houses)],
            "waiting": self.line,
            "neighbours": [self.near(house) for house in self.houses],
        }


class PostCase(RefusalCase):

    def refused(self, post, error, call, *arguments):
        """The call is refused with this very error, and changes nothing."""
        before = all_of_post(post)
        self.refused_with(error, call, *arguments)
        self.assertEqual(all_of_post(post), before)


def guild_of_turns():
    """House 1 would rather go by house 2."""
    guild = guild_with_ways(4, [(0, 1), (0, 2), (1, 2), (1, 3)])
    guild.like(1, 2, 1)
    return guild


def post_going_round():
    """A post in which 1 goes by 2 and 2 by 1, with a letter under way in each direction."""
    guild = guild_with_ways(5, [(0, 1), (0, 2), (1, 2), (1, 3), (2, 4)])
    guild.like(2, 1, 1)
    post = Post(guild)
    for a, b in [(0, 2), (2, 1), (0, 1), (1, 2)]:
        post.carry(a, b)
    post.fall(0, 1)
    return post


class AtFirst(PostCase):

    def test_the_seat_alone_has_a_road(self):
        post = Post(guild_of_turns())
        self.assertEqual(post.table(), [[0], None, None, None])
        self.assertEqual([post.road(house) for house in range(4)], [[0], None, None, None])

    def test_nobody_has_told_anything(self):
        post = Post(guild_of_turns())
        for a, b in itertools.product(range(4), range(4)):
            self.assertIsNone(post.told(a, b))

    def test_the_seat_writes_to_its_neighbours_the_least_one_first(self):
        for order in itertools.permutations([9, 2, 10, 5]):
            guild = guild_with_ways(12, [(house, 0) for house in order])
            guild.lay_way(1, 2)
            letters = Post(guild).waiting()
            self.assertEqual(letters, [(0, 2, [0]), (0, 5, [0]), (0, 9, [0]), (0, 10, [0])])

    def test_the_kinds(self):
        post = Post(guild_of_turns())
        self.assertIs(type(post.waiting()), list)
        self.assertIs(type(post.waiting()[0]), tuple)
        self.assertIs(type(post.waiting()[0][2]), list)
        self.assertIs(type(post.table()), list)
        self.assertIs(type(post.neighbours_now(0)), list)

    def test_neighbours_are_those_of_the_guild(self):
        guild = guild_with_ways(12, [(5, 10), (5, 9), (5, 0), (2, 5)])
        post = Post(guild)
        self.assertEqual(post.neighbours_now(5), [0, 2, 9, 10])
        self.assertEqual([post.neighbours_now(a) for a in range(12)], [guild.neighbours(a) for a in range(12)])

    def test_a_seat_without_neighbours(self):
        for guild in [Guild(1), Guild(3), guild_with_ways(3, [(1, 2)])]:
            post = Post(guild)
            self.assertEqual(post.waiting(), [])
            self.assertEqual(post.settle(100), 0)
            self.refused(post, NoLetter, post.carry_next)
            self.assertEqual(post.table(), [[0]] + [None] * (guild.size() - 1))

    def test_whom_the_seat_likes_and_shuns_does_not_matter(self):
        guild = guild_with_ways(3, [(0, 1), (0, 2)])
        guild.shun(0, 1)
        guild.like(0, 2, 5)
        self.assertEqual(Post(guild).waiting(), [(0, 1, [0]), (0, 2, [0])])


class Letters(PostCase):

    def test_a_letter_that_is_carried_leaves_the_line_and_is_told(self):
        post = Post(guild_of_turns())
        self.assertIs(post.carry(0, 2), True)
        self.assertEqual(post.told(0, 2), [0])
        self.assertIsNone(post.told(2, 0))
        self.assertIsNone(post.told(0, 1))
        self.assertEqual(post.road(2), [2, 0])
        self.assertEqual(post.waiting(), [(0, 1, [0]), (2, 0, [2, 0]), (2, 1, [2, 0])])

    def test_a_new_road_is_written_to_each_neighbour_the_least_first_the_teller_too(self):
        guild = guild_with_ways(12, [(5, 11), (5, 9), (5, 10), (5, 0), (2, 5)])
        post = Post(guild)
        self.assertIs(post.carry_next(), True)
        self.assertEqual(post.waiting(), [(5, near, [5, 0]) for near in [0, 2, 9, 10, 11]])

    def test_a_letter_that_changes_no_road_writes_nothing(self):
        guild = guild_with_ways(3, [(0, 1), (0, 2), (1, 2)])
        post = Post(guild)
        post.carry(0, 1)
        post.carry(0, 2)
        before = post.waiting()
        self.assertIs(post.carry(1, 2), False)
        self.assertEqual(post.told(1, 2), [1, 0])
        self.assertEqual(post.road(2), [2, 0])
        self.assertEqual(post.waiting(), [letter for letter in before if letter[:2] != (1, 2)])

    def test_the_seat_keeps_its_road(self):
        post = Post(guild_of_turns())
        post.carry(0, 1)
        before = post.waiting()
        self.assertIs(post.carry(1, 0), False)
        self.assertEqual(post.told(1, 0), [1, 0])
        self.assertEqual(post.road(0), [0])
        self.assertEqual(post.waiting(), [letter for letter in before if letter[:2] != (1, 0)])

    def test_a_waiting_letter_is_written_anew_in_its_place(self):
        post = Post(guild_of_turns())
        post.carry(0, 1)
        post.carry(0, 2)
        self.assertEqual(post.waiting(), [(1, 0, [1, 0]), (1, 2, [1, 0]), (1, 3, [1, 0]), (2, 0, [2, 0]),
                                          (2, 1, [2, 0])])
        self.assertIs(post.carry(2, 1), True)
        self.assertEqual(post.waiting(), [(1, 0, [1, 2, 0]), (1, 2, [1, 2, 0]), (1, 3, [1, 2, 0]), (2, 0, [2, 0])])
        self.assertIsNone(post.told(1, 3))
        post.carry(1, 3)
        self.assertEqual(post.road(3), [3, 1, 2, 0])

    def test_some_wait_and_some_join_the_end(self):
        post = Post(guild_of_turns())
        for a, b in [(0, 1), (1, 2), (0, 2), (1, 0)]:
            post.carry(a, b)
        self.assertEqual(post.waiting(), [(1, 3, [1, 0]), (2, 0, [2, 0]), (2, 1, [2, 0])])
        post.carry(2, 1)
        self.assertEqual(post.waiting(), [(1, 3, [1, 2, 0]), (2, 0, [2, 0]), (1, 0, [1, 2, 0]), (1, 2, [1, 2, 0])])

    def test_a_letter_may_come_to_bear_what_was_told_already(self):
        post = Post(guild_of_turns())
        for a, b in [(0, 1), (1, 3), (0, 2), (2, 1)]:
            post.carry(a, b)
        self.assertEqual((post.told(1, 3), post.road(1)), ([1, 0], [1, 2, 0]))
        self.assertEqual(post.waiting()[-1], (1, 3, [1, 2, 0]))
        before = [letter[:2] for letter in post.waiting()]
        post.fall(1, 2)
        self.assertEqual(post.road(1), [1, 0])
        self.assertIn((1, 3, [1, 0]), post.waiting())
        self.assertEqual([letter[:2] for letter in post.waiting()],
                         [pair for pair in before if pair not in [(1, 2), (2, 1)]])
        self.assertIs(post.carry(1, 3), False)
        self.assertEqual((post.told(1, 3), post.road(3)), ([1, 0], [3, 1, 0]))

    def test_a_letter_may_bear_none(self):
        post = Post(guild_with_ways(3, [(0, 1), (1, 2)]))
        post.settle(100)
        self.assertEqual(post.table(), [[0], [1, 0], [2, 1, 0]])
        post.fall(0, 1)
        self.assertEqual(post.waiting(), [(1, 2, None)])
        self.assertIs(post.carry_next(), True)
        self.assertEqual(post.table(), [[0], None, None])
        self.assertIsNone(post.told(1, 2))
        self.assertEqual(post.waiting(), [(2, 1, None)])
        self.assertIs(post.carry_next(), False)
        self.assertEqual(post.waiting(), [])

    def test_a_waiting_letter_may_come_to_bear_none(self):
        post = Post(guild_with_ways(3, [(0, 1), (1, 2)]))
        post.carry_next()
        self.assertEqual(post.waiting(), [(1, 0, [1, 0]), (1, 2, [1, 0])])
        post.fall(0, 1)
        self.assertEqual(post.waiting(), [(1, 2, None)])
        self.assertIs(post.carry_next(), False)
        self.assertEqual(post.waiting(), [])

    def test_letters_are_carried_in_any_order(self):
        post = Post(guild_with_ways(4, [(0, 1), (0, 2), (0, 3)]))
        self.assertIs(post.carry(0, 3), True)
        self.assertIs(post.carry(3, 0), False)
        self.assertIs(post.carry(0, 1), True)
        self.assertEqual(post.waiting(), [(0, 2, [0]), (1, 0, [1, 0])])

    def test_carry_next_carries_the_first(self):
        post = Post(guild_of_turns())
        while post.waiting():
            first = post.waiting()[0]
            old = post.road(first[1])
            self.assertIs(post.carry_next(), post.road(first[1]) != old)
            self.assertEqual(post.told(first[0], first[1]), first[2])

    def test_roads_that_the_receiver_shuns_are_told_but_not_taken(self):
        guild = guild_with_ways(4, [(0, 1), (1, 2), (2, 3)])
        guild.shun(3, 1)
        post = Post(guild)
        post.settle(100)
        self.assertEqual(post.table(), [[0], [1, 0], [2, 1, 0], None])
        self.assertEqual(post.told(2, 3), [2, 1, 0])

    def test_a_road_that_is_told_anew_and_not_taken_any_more(self):
        guild = guild_of_turns()
        guild.shun(3, 2)
        post = Post(guild)
        post.carry(0, 1)
        post.carry(1, 3)
        self.assertEqual(post.road(3), [3, 1, 0])
        post.carry(0, 2)
        post.carry(2, 1)
        self.assertIs(post.carry(1, 3), True)
        self.assertIsNone(post.road(3))
        self.assertEqual(post.waiting(), [(1, 0, [1, 2, 0]), (1, 2, [1, 2, 0]), (3, 1, None), (2, 0, [2, 0])])

    def test_told_of_houses_that_are_no_neighbours(self):
        post = Post(guild_of_turns())
        post.settle(100)
        self.assertEqual(post.told(1, 3), [1, 2, 0])
        for a, b in [(0, 3), (3, 0), (2, 3), (3, 2), (0, 0), (1, 1)]:
            self.assertIsNone(post.told(a, b))

    def test_a_road_that_is_told_longer_gives_way_to_another(self):
        guild = guild_with_ways(5, [(0, 1), (0, 2), (1, 2), (1, 3), (3, 4), (0, 4)])
        guild.like(1, 2, 1)
        post = Post(guild)
        post.carry(0, 1)
        post.carry(1, 3)
        self.assertEqual(post.road(3), [3, 1, 0])
        post.carry(0, 4)
        self.assertIs(post.carry(4, 3), False)
        post.carry(0, 2)
        post.carry(2, 1)
        self.assertIs(post.carry(1, 3), True)
        self.assertEqual(post.road(3), [3, 4, 0])


class Settle(PostCase):

    def test_until_none_waits(self):
        post = Post(guild_with_ways(3, [(0, 1), (1, 2)]))
        self.assertEqual(post.settle(100000), 4)
        self.assertEqual(post.waiting(), [])
        self.assertEqual(post.settle(100000), 0)
        self.assertEqual(post.table(), [[0], [1, 0], [2, 1, 0]])

    def test_no_more_than_asked_for(self):
        for most in range(10):
            one, other = Post(guild_of_turns()), Post(guild_of_turns())
            carried = 0
            while carried < most and other.waiting():
                other.carry_next()
                carried += 1
            self.assertEqual(one.settle(most), carried)
            self.assertEqual(all_of_post(one), all_of_post(other))

    def test_none_at_all(self):
        post = Post(guild_of_turns())
        before = all_of_post(post)
        for most in [0, -1]:
            self.assertEqual(post.settle(most), 0)
            self.assertEqual(all_of_post(post), before)

    def test_somewhat_more_than_100000(self):
        self.assertEqual(Post(restless_guild()).settle(100001), 100001)

    def test_the_greatest_guild_with_all_ways(self):
        post = Post(full_guild(60))
        self.assertEqual(post.settle(100000), 60 * 59)
        self.assertEqual(post.table(), [[0]] + [[house, 0] for house in range(1, 60)])


class Falling(PostCase):

    def test_the_way_is_gone_whichever_house_is_named_first(self):
        for a, b in [(1, 2), (2, 1)]:
            post = Post(guild_of_turns())
            post.settle(100)
            post.fall(a, b)
            self.assertEqual(post.neighbours_now(1), [0, 3])
            self.assertEqual(post.neighbours_now(2), [0])
            self.assertEqual((post.told(1, 2), post.told(2, 1)), (None, None))
            self.assertEqual(post.road(1), [1, 0])
            self.assertEqual(post.waiting(), [(1, 0, [1, 0]), (1, 3, [1, 0])])
            self.refused(post, NoWay, post.fall, a, b)

    def test_letters_between_the_two_leave_the_line(self):
        for a, b in [(1, 2), (2, 1)]:
            post = post_going_round()
            self.assertEqual(post.table(), [[0], [1, 2, 0], [2, 1, 0], None, None])
            self.assertEqual(post.waiting(), [(2, 0, [2, 1, 0]), (2, 4, [2, 1, 0]), (1, 3, [1, 2, 0]),
                                              (2, 1, [2, 1, 0]), (1, 2, [1, 2, 0])])
            post.fall(a, b)
            self.assertEqual(post.table(), [[0], None, [2, 0], None, None])
            self.assertEqual(post.waiting(), [(2, 0, [2, 0]), (2, 4, [2, 0]), (1, 3, None)])
            self.assertEqual((post.told(1, 2), post.told(2, 1)), (None, None))
            self.refused(post, NoLetter, post.carry, 1, 2)
            self.refused(post, NoLetter, post.carry, 2, 1)

    def test_the_lesser_one_writes_first(self):
        for a, b in [(1, 2), (2, 1)]:
            post = post_going_round()
            for pair in [(2, 0), (1, 3), (2, 4)]:
                post.carry(*pair)
            self.assertEqual(post.road(1), [1, 2, 0])
            self.assertEqual(post.road(2), [2, 1, 0])
            before = [letter for letter in post.waiting() if letter[:2] not in [(1, 2), (2, 1)]]
            post.fall(a, b)
            self.assertEqual(post.waiting(), before + [(1, 3, None), (2, 0, [2, 0]), (2, 4, [2, 0])])

    def test_a_way_that_no_road_uses(self):
        guild = guild_with_ways(3, [(0, 1), (0, 2), (1, 2)])
        post = Post(guild)
        post.settle(100)
        table = post.table()
        post.fall(1, 2)
        self.assertEqual((post.table(), post.waiting()), (table, []))
        self.assertEqual((post.told(1, 2), post.told(2, 1)), (None, None))
        self.assertEqual((post.told(0, 2), post.told(2, 0)), ([0], [2, 0]))

    def test_a_way_of_the_seat_before_any_letter_is_carried(self):
        post = Post(guild_of_turns())
        post.fall(1, 0)
        self.assertEqual(post.waiting(), [(0, 2, [0])])
        self.assertEqual(post.table(), [[0], None, None, None])
        post.fall(0, 2)
        self.assertEqual(post.waiting(), [])

    def test_other_letters_keep_their_order(self):
        post = Post(guild_with_ways(5, [(0, 1), (0, 2), (0, 3), (0, 4)]))
        post.fall(0, 2)
        self.assertEqual(post.waiting(), [(0, 1, [0]), (0, 3, [0]), (0, 4, [0])])

    def test_what_is_refused(self):
        post = Post(guild_of_turns())
        post.settle(3)
        for a, b in [(0, 3), (3, 0), (2, 3), (3, 2)]:
            self.refused(post, NoWay, post.fall, a, b)
        for house in range(4):
            self.refused(post, NoHouse, post.fall, house, house)


class Rising(PostCase):

    def test_the_lesser_one_writes_first(self):
        for a, b in [(1, 2), (2, 1)]:
            post = Post(guild_with_ways(3, [(0, 1), (0, 2)]))
            post.settle(100)
            post.rise(a, b)
            self.assertEqual(post.waiting(), [(1, 2, [1, 0]), (2, 1, [2, 0])])
            self.assertEqual((post.neighbours_now(1), post.neighbours_now(2)), ([0, 2], [0, 1]))
            self.assertEqual((post.told(1, 2), post.told(2, 1)), (None, None))
            self.assertEqual(post.table(), [[0], [1, 0], [2, 0]])
            self.refused(post, WayThere, post.rise, a, b)

    def test_a_house_without_a_road_writes_nothing(self):
        post = Post(Guild(3))
        post.rise(1, 2)
        self.assertEqual(post.waiting(), [])
        post.rise(2, 0)
        self.assertEqual(post.waiting(), [(0, 2, [0])])
        self.assertEqual(post.settle(100), 4)
        self.assertEqual(post.table(), [[0], [1, 2, 0], [2, 0]])

    def test_the_greater_one_alone_has_a_road(self):
        post = Post(guild_with_ways(3, [(0, 2)]))
        post.settle(100)
        post.rise(1, 2)
        self.assertEqual(post.waiting(), [(2, 1, [2, 0])])

    def test_letters_join_the_end(self):
        post = Post(guild_with_ways(4, [(0, 1), (0, 2)]))
        post.carry(0, 1)
        post.rise(1, 3)
        self.assertEqual(post.waiting(), [(0, 2, [0]), (1, 0, [1, 0]), (1, 3, [1, 0])])

    def test_behind_a_fall_the_same_road_is_written_again(self):
        post = Post(guild_with_ways(3, [(0, 1), (0, 2), (1, 2)]))
        post.settle(100)
        post.fall(1, 2)
        post.rise(1, 2)
        self.assertEqual(post.waiting(), [(1, 2, [1, 0]), (2, 1, [2, 0])])
        post.fall(0, 1)
        post.rise(0, 1)
        self.assertEqual(post.waiting(), [(1, 2, None), (2, 1, [2, 0]), (0, 1, [0])])
        post.settle(100)
        self.assertEqual(post.table(), [[0], [1, 0], [2, 0]])

    def test_what_was_told_before_the_fall_is_not_chosen_behind_the_rise(self):
        post = Post(guild_with_ways(3, [(0, 1), (0, 2), (1, 2)]))
        post.settle(100)
        post.fall(0, 2)
        post.rise(0, 2)
        self.assertEqual(post.road(2), [2, 1, 0])
        post.fall(1, 2)
        self.assertIsNone(post.road(2))

    def test_a_letter_that_fell_does_not_come_back(self):
        post = Post(guild_with_ways(2, [(0, 1)]))
        post.carry(0, 1)
        post.fall(0, 1)
        self.assertEqual((post.waiting(), post.road(1)), ([], None))
        post.rise(0, 1)
        self.assertEqual(post.waiting(), [(0, 1, [0])])

    def test_what_is_refused(self):
        post = Post(guild_of_turns())
        post.settle(3)
        for a, b in [(0, 1), (1, 0), (1, 2), (3, 1)]:
            self.refused(post, WayThere, post.rise, a, b)
        for house in range(4):
            self.refused(post, NoHouse, post.rise, house, house)


class Refusals(PostCase):

    def test_what_is_no_house(self):
        post = Post(busy_guild())
        post.settle(2)
        for number in not_houses(5):
            self.refused(post, NoHouse, post.road, number)
            self.refused(post, NoHouse, post.neighbours_now, number)
            for call in [post.told, post.carry, post.fall, post.rise]:
                for pair in [(number, 1), (1, number), (number, number), (0, number), (number, 0)]:
                    self.refused(post, NoHouse, call, *pair)

    def test_no_letter(self):
        post = Post(guild_of_turns())
        for a, b in [(1, 0), (2, 0), (0, 3), (1, 2), (0, 0), (3, 3)]:
            self.refused(post, NoLetter, post.carry, a, b)
        post.carry(0, 1)
        self.refused(post, NoLetter, post.carry, 0, 1)
        post.settle(100)
        self.refused(post, NoLetter, post.carry_next)
        for a, b in itertools.product(range(4), range(4)):
            self.refused(post, NoLetter, post.carry, a, b)


class NothingIsShared(PostCase):

    def test_what_is_done_to_the_guild_later_changes_no_post(self):
        guild, same = guild_of_turns(), Post(guild_of_turns())
        post = Post(guild)
        guild.lay_way(2, 3)
        guild.lift_way(0, 1)
        guild.like(1, 2, -5)
        guild.like(3, 1, -5)
        guild.shun(3, 1)
        guild.wish([1, 0], 9)
        self.assertEqual(all_of_post(post), all_of_post(same))
        while same.waiting():
            self.assertIs(post.carry_next(), same.carry_next())
            self.assertEqual(all_of_post(post), all_of_post(same))

    def test_the_guild_s_likings_wishes_and_shunned_houses_are_those_of_the_post(self):
        guild = full_guild(4)
        guild.like(1, 2, 1)
        guild.wish([2, 3, 0], 1)
        guild.shun(3, 1)
        guild.shun(3, 2)
        post = Post(guild)
        post.settle(1000)
        self.assertEqual(post.table(), [[0], [1, 2, 3, 0], [2, 3, 0], [3, 0]])

    def test_what_is_done_to_a_post_changes_no_guild(self):
        guild = guild_of_turns()
        before = all_of(guild)
        post = Post(guild)
        post.settle(5)
        post.fall(1, 2)
        post.rise(2, 3)
        post.settle(100)
        self.assertEqual(all_of(guild), before)

    def test_two_posts_of_one_guild_know_nothing_of_each_other(self):
        guild = guild_of_turns()
        one, other = Post(guild), Post(guild)
        before = all_of_post(other)
        one.settle(4)
        one.fall(0, 1)
        one.rise(0, 3)
        one.settle(100)
        self.assertEqual(all_of_post(other), before)

    def test_lists_that_are_handed_back_are_fresh(self):
        post = Post(guild_of_turns())
        post.settle(3)
        before = all_of_post(post)
        for house in range(4):
            post.neighbours_now(house).append(7)
            if post.road(house) is not None:
                post.road(house).append(7)
                post.table()[house].append(7)
            for other in range(4):
                if post.told(house, other) is not None:
                    post.told(house, other).append(7)
        for letter in post.waiting():
            letter[2].append(7)
        post.waiting().clear()
        post.table().clear()
        self.assertEqual(all_of_post(post), before)

    def test_the_lists_of_one_answer_are_different_ones(self):
        post = Post(guild_of_turns())
        post.carry(0, 1)
        letters = post.waiting()
        letters[1][2].append(7)
        self.assertEqual(letters[2][2], [1, 0])

    def test_what_was_handed_back_stays_as_it_was(self):
        post = Post(guild_of_turns())
        post.settle(2)
        told = all_of_post(post)
        copy = [list(road) if road else road for road in told["table"]]
        letters = list(told["waiting"])
        post.fall(0, 1)
        post.settle(100)
        self.assertEqual(told["table"], copy)
        self.assertEqual(told["waiting"], letters)


class AgainstTheWords(PostCase):

    def step(self, dice, post, plain):
        """One thing is done to both, thrown by the dice."""
        size = len(plain.roads)
        kind = dice.below(10)
        a, b = dice.below(size), dice.below(size)
        if kind < 2 and a != b and {a, b} in plain.ways:
            post.fall(a, b)
            plain.fall(a, b)
        elif kind < 4 and a != b and {a, b} not in plain.ways:
            post.rise(a, b)
            plain.rise(a, b)
        elif kind < 7 and plain.line:
            place = dice.below(len(plain.line))
            letter = plain.line[place]
            self.assertIs(post.carry(letter[0], letter[1]), plain.carry(place))
        elif kind < 9 and plain.line:
            self.assertIs(post.carry_next(), plain.carry(0))
        else:
            carried = 0
            while plain.line and carried < kind:
                plain.carry(0)
                carried += 1
            self.assertEqual(post.settle(kind), carried)

    def test_thrown_guilds_and_thrown_doings(self):
        for seed in range(120):
            dice = Dice(seed)
            guild = thrown_guild(dice, 1 + dice.below(6))
            post, plain = Post(guild), PlainPost(guild)
            self.assertEqual(all_of_post(post), plain.all_of())
            for turn in range(60):
                self.step(dice, post, plain)
                self.assertEqual(all_of_post(post), plain.all_of())

    def test_at_most_one_letter_waits_from_one_house_to_another(self):
        dice = Dice(500)
        guild = thrown_guild(dice, 6)
        post, plain = Post(guild), PlainPost(guild)
        for turn in range(300):
            self.step(dice, post, plain)
            pairs = [letter[:2] for letter in post.waiting()]
            self.assertEqual(len(set(pairs)), len(pairs))
            self.assertTrue(all(b in post.neighbours_now(a) for a, b in pairs))


if __name__ == "__main__":
    unittest.main()
