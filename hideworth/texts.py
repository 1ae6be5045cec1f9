"""Texts of webs and of seekers' papers, written and read."""

from hideworth.errors import NoText, NoWeb
from hideworth.webs import KINDS, is_road, look_kind, look_web

FIGURES = "0123456789"
MOST_FIGURES = 2000


def web_rows(web):
    many, roads = web
    return [f"web {many}"] + [f"road {a} {b} {length}" for a, b, length in roads]


def thing_text(kind, thing):
    if kind == "walk":
        return str(thing)
    a, b = thing
    return f"{a}-{b}"


def paper_rows(kind, paper):
    rows = []
    for plan, weight in paper:
        words = [kind, str(weight)] + [thing_text(kind, thing) for thing in plan]
        rows.append(" ".join(words))
    return rows


def text_of(rows):
    return "".join([row + "\n" for row in rows])


def web_text(web):
    look_web(web)
    return text_of(web_rows(web))


def paper_text(kind, paper):
    look_kind(kind)
    return text_of(paper_rows(kind, paper))


# What is read of a word, of words or of a row is None where it is none.


def number_in(word):
    if not 1 <= len(word) <= MOST_FIGURES or not all([sign in FIGURES for sign in word]):
        return None
    if word.startswith("0") and word != "0":
        return None
    return int(word)


def numbers_in(words):
    numbers = [number_in(word) for word in words]
    return None if None in numbers else numbers


def thing_in(kind, word):
    if kind == "walk":
        return number_in(word)
    ends = numbers_in(word.split("-"))
    return None if ends is None or len(ends) != 2 else tuple(ends)


def plan_in(kind, words):
    plan = [thing_in(kind, word) for word in words]
    return None if None in plan else plan


def many_in(row):
    words = row.split(" ")
    return number_in(words[1]) if len(words) == 2 and words[0] == "web" else None


def road_in(row, many):
    words = row.split(" ")
    if len(words) != 4 or words[0] != "road":
        return None
    numbers = numbers_in(words[1:])
    return None if numbers is None or not is_road(tuple(numbers), many) else tuple(numbers)


def share_in(row, kind):
    words = row.split(" ")
    # A walk has its first place at least.
    if words[0] != kind or len(words) < (3 if kind == "walk" else 2):
        return None
    weight = number_in(words[1])
    plan = plan_in(kind, words[2:])
    return None if weight is None or weight < 1 or plan is None else (plan, weight)


def read_rows(text, read_row):
    # A row is read with what was read of those ahead. What stands behind the last line end is no row.
    rows = text.split("\n")
    read = []
    for k, row in enumerate(rows[:-1]):
        thing = read_row(row, read)
        if thing is None:
            raise NoText(k)
        read.append(thing)
    if not read or rows[-1] != "":
        raise NoText(len(read))
    return read


def read_web(text):
    read = read_rows(text, lambda row, ahead: road_in(row, ahead[0]) if ahead else many_in(row))
    web = (read[0], read[1:])
    try:
        look_web(web)
    except NoWeb:
        raise NoText(len(read))
    return web


def read_paper(text):
    kind = text.partition(" ")[0]
    if kind not in KINDS:
        raise NoText(0)
    return (kind, read_rows(text, lambda row, ahead: share_in(row, kind)))
