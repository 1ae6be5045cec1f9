"""A desk: webs by names, told and asked by rows of words."""

from hideworth.errors import NoName, NoNumber, NoRoad, NoRow
from hideworth.finder import web_worth
from hideworth.texts import number_in, paper_rows, plan_in, web_rows
from hideworth.trees import tree_worth
from hideworth.webs import costs_of, look_kind, look_web

LETTERS = "abcdefghijklmnopqrstuvwxyz"
MOST_LETTERS = 8
COUNTS = {"web": 3, "road": 5, "cut": 3, "show": 2, "names": 1, "worth": 3, "seek": 3, "hide": 3, "tree": 2, "drop": 2}


def is_name(word):
    return 1 <= len(word) <= MOST_LETTERS and all([sign in LETTERS for sign in word])


def is_row(words):
    if words[0] == "pay":
        return len(words) >= 3
    return COUNTS.get(words[0]) == len(words)


def number_of(word):
    number = number_in(word)
    if number is None:
        raise NoNumber("a number is written in figures, without a nought ahead of another one")
    return number


def plan_of(kind, words):
    plan = plan_in(kind, words)
    if plan is None:
        raise NoNumber("a walk's words are places, a spread's two places with a sign - between")
    return plan


class Desk:
    def __init__(self):
        self.webs = {}
        # By names, and then by kinds, what web_worth told.
        self.answers = {}

    def say(self, row):
        words = row.split(" ")
        if not is_row(words):
            raise NoRow("a row has a first word of the desk's, and as many words as go with it")
        if words[0] == "names":
            return " ".join(sorted(self.webs))
        if words[0] == "web":
            return self.put_web(words[1], words[2])
        web = self.web_by(words[1])
        if words[0] in ("road", "cut", "drop"):
            return self.change_web(words, web)
        return self.tell(words, web)

    def put_web(self, name, many):
        if not is_name(name):
            raise NoName("a name is one to eight small letters")
        return self.keep_web(name, number_of(many), [])

    def keep_web(self, name, many, roads):
        self.webs[name] = (many, roads)
        self.answers[name] = {}
        return "ok"

    def web_by(self, name):
        if name not in self.webs:
            raise NoName("no web stands by this name")
        return self.webs[name]

    def change_web(self, words, web):
        name = words[1]
        many, roads = web
        if words[0] == "road":
            road = tuple([number_of(word) for word in words[2:]])
            return self.keep_web(name, many, roads + [road])
        if words[0] == "cut":
            k = number_of(words[2])
            if k >= len(roads):
                raise NoRoad("the web has no such road")
            return self.keep_web(name, many, roads[:k] + roads[k + 1:])
        self.webs.pop(name)
        self.answers.pop(name)
        return "ok"

    def tell(self, words, web):
        if words[0] == "show":
            return ", ".join(web_rows(web))
        if words[0] == "tree":
            total, paper, weights = tree_worth(web)
            return str(total[0])
        kind = words[2]
        if words[0] == "pay":
            return self.pay(web, kind, words[3:])
        worth, seeker, hider = self.answer_for(words[1], kind)
        if words[0] == "worth":
            top, bottom = worth
            return f"{top}/{bottom}"
        if words[0] == "seek":
            return ", ".join(paper_rows(kind, seeker))
        return " ".join([str(weight) for weight in hider[0]])

    def pay(self, web, kind, words):
        look_web(web)
        look_kind(kind)
        costs = costs_of(web, kind, plan_of(kind, words))
        return " ".join([str(cost) for cost in costs])

    def answer_for(self, name, kind):
        kept = self.answers[name]
        if kind not in kept:
            kept[kind] = web_worth(self.webs[name], kind)
        return kept[kind]
