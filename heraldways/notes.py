"""A guild written as a text, and the text read to a guild."""

from heraldways.errors import BadNote, GuildError
from heraldways.guild import Guild

FIGURES = "0123456789"
MOST_FIGURES = 60


def shown(guild):
    size = guild.size()
    lines = [f"houses {size}"]
    lines.extend(way_lines(guild))
    lines.extend(like_lines(guild))
    lines.extend(shun_lines(guild))
    lines.extend(wish_lines(guild))
    return "".join([line + "\n" for line in lines])


def way_lines(guild):
    lines = []
    for a in range(guild.size()):
        lines.extend([f"way {a} {b}" for b in guild.neighbours(a) if a < b])
    return lines


def like_lines(guild):
    lines = []
    for a in range(guild.size()):
        for b in range(guild.size()):
            rank = guild.liking(a, b)
            if rank != 0:
                lines.append(f"like {a} {b} {rank}")
    return lines


def shun_lines(guild):
    lines = []
    for a in range(guild.size()):
        lines.extend([f"shun {a} {b}" for b in guild.shunned(a)])
    return lines


def wish_lines(guild):
    lines = []
    for road, rank in guild.wishes():
        houses = " ".join([str(house) for house in road])
        lines.append(f"wish {rank} {houses}")
    return lines


def read(text):
    rows = rows_of(text)
    try:
        guild = guild_of(rows[0])
        for words in rows[1:]:
            take_row(guild, words)
    except GuildError as e:
        raise BadNote("the text tells no guild") from e
    return guild


def rows_of(text):
    # An empty text lacks the line end too, so there is at least one row.
    if not text.endswith("\n"):
        raise BadNote("the last line lacks its line end")
    return [line.split(" ") for line in text[:-1].split("\n")]


def guild_of(words):
    if len(words) != 2 or words[0] != "houses":
        raise BadNote("the first line tells how many houses there are")
    return Guild(number_of(words[1]))


def take_row(guild, words):
    kind = words[0]
    numbers = [number_of(word) for word in words[1:]]
    if kind == "way" and len(numbers) == 2:
        guild.lay_way(numbers[0], numbers[1])
    elif kind == "like" and len(numbers) == 3:
        guild.like(numbers[0], numbers[1], numbers[2])
    elif kind == "shun" and len(numbers) == 2:
        guild.shun(numbers[0], numbers[1])
    elif kind == "wish" and len(numbers) > 0:
        guild.wish(numbers[1:], numbers[0])
    else:
        raise BadNote("a line of no known kind")


def number_of(word):
    figures = word[1:] if word.startswith("-") else word
    # The length is looked at first: Python itself refuses a text of thousands of figures.
    if len(figures) < 1 or len(figures) > MOST_FIGURES:
        raise BadNote("a number has 1 to 60 figures")
    if any([sign not in FIGURES for sign in figures]):
        raise BadNote("a number is written by figures")
    if figures[0] == "0" and word != "0":
        raise BadNote("a needless nought or -0")
    return int(word)
