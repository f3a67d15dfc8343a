"""The river text: writing a river as a text and reading it again."""

from riverkeeps.errors import BadText, RiverError
from riverkeeps.names import MAX_ROOM, MAX_THINGS, MAX_TOWNS, is_name
from riverkeeps.rivers import River


def write_river(river):
    """Return the river text."""
    lines = []
    for name, after, room, liking in river.town_rows():
        behind = "sea" if after is None else after
        lines.append(" ".join(["town", name, str(room), behind] + liking))
    for name, spring in river.thing_rows():
        lines.append(f"thing {name} {spring}")
    return "\n".join(lines)


def is_room_word(word):
    """Tell whether the word writes a room, without leading zeros."""
    return word in [str(room) for room in range(MAX_ROOM + 1)]


def is_town_line(words):
    """Tell whether the words have the form of a town line."""
    if len(words) < 4 or words[0] != "town":
        return False
    name, room, behind = words[1:4]
    if not is_name(name) or not is_room_word(room):
        return False
    return (behind == "sea" or is_name(behind)) and all([is_name(thing) for thing in words[4:]])


def is_thing_line(words):
    """Tell whether the words have the form of a thing line."""
    return len(words) == 3 and words[0] == "thing" and is_name(words[1]) and is_name(words[2])


def can_follow(words, before):
    """Tell whether a line may stand behind the lines before it, which are not at fault."""
    same = [row for row in before if row[0] == words[0]]
    most = MAX_TOWNS if words[0] == "town" else MAX_THINGS
    if len(same) == most:
        return False
    if not before:
        return words[0] == "town"
    if words[0] == "town" and before[-1][0] == "thing":
        return False
    return not same or same[-1][1] < words[1]


def read_lines(text):
    """Return the lines of a river text, each as its words; raise BadText."""
    rows = []
    for at, line in enumerate(text.split("\n")):
        words = line.split(" ")
        if not (is_town_line(words) or is_thing_line(words)) or not can_follow(words, rows):
            raise BadText(at + 1)
        rows.append(words)
    return rows


def read_river(text):
    """Return the river of a river text; raise BadText or an error of River."""
    towns = []
    things = []
    for words in read_lines(text):
        if words[0] == "town":
            after = None if words[3] == "sea" else words[3]
            towns.append((words[1], after, int(words[2]), words[4:]))
        else:
            things.append((words[1], words[2]))
    return River(towns, things)


def is_river_text(text):
    """Tell whether the text can be read."""
    try:
        read_river(text)
    except RiverError:
        return False
    return True
