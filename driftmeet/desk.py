"""A desk: it is told rows, texts, keeps a meeting by them, and answers each with a text."""

from driftmeet.dates import date, first_sure, is_out, last_sure, stretch_at
from driftmeet.errors import NoName, NoRow, NoText
from driftmeet.known import latest, road, surely
from driftmeet.leases import hold_till, holds
from driftmeet.liars import when_but
from driftmeet.logs import last_of
from driftmeet.meeting import Meeting
from driftmeet.texts import read_name, read_number, read_row, read_world
from driftmeet.texts import show_list, show_log, show_name, show_names, show_number, show_stretch

BEGINNING = "world "


def show_truth(truth):
    return "yes" if truth else "no"


def show_reading(reading):
    return "none" if reading is None else show_number(reading)


def own_last(heard, hand):
    last = last_of(heard, hand)
    if last is None:
        raise NoName("this hand has no happening yet")
    return last


# Each answer is made of the meeting and of what the row tells behind its first
# word, the hand first. What the hand has heard is asked for ahead of all else:
# that refuses a hand that the world has not.


def answer_log(meeting, given):
    return show_log(meeting.log())


def answer_heard(meeting, given):
    return show_log(meeting.heard(given[0]))


def answer_news(meeting, given):
    return show_names(meeting.news(given[0], given[1]))


def answer_when(meeting, given):
    return show_stretch(meeting.when(given[0]))


def answer_between(meeting, given):
    return show_stretch(meeting.between(given[0], given[1], given[2]))


def answer_road(meeting, given):
    way = road(meeting.world, meeting.heard(given[0]), given[1], given[2])
    return "none" if way is None else show_names(way)


def answer_surely(meeting, given):
    return show_truth(surely(meeting.world, meeting.heard(given[0]), given[1], given[2]))


def answer_latest(meeting, given):
    return show_list(latest(meeting.world, meeting.heard(given[0]), given[1], given[2], given[3]))


def answer_but(meeting, given):
    heard = meeting.heard(given[0])
    return show_stretch(when_but(meeting.world, heard, own_last(heard, given[0]), given[1]))


def answer_at(meeting, given):
    return show_stretch(stretch_at(meeting.world, meeting.heard(given[0]), given[0], given[1]))


def answer_first(meeting, given):
    return show_reading(first_sure(meeting.world, meeting.heard(given[0]), given[0], given[1]))


def answer_last(meeting, given):
    return show_reading(last_sure(meeting.world, meeting.heard(given[0]), given[0], given[1]))


def answer_date(meeting, given):
    heard = meeting.heard(given[0])
    return show_number(date(meeting.world, heard, own_last(heard, given[0])))


def answer_out(meeting, given):
    heard = meeting.heard(given[0])
    return show_truth(is_out(meeting.world, heard, given[1], own_last(heard, given[0])))


def answer_holds(meeting, given):
    heard = meeting.heard(given[0])
    return show_truth(holds(meeting.world, heard, (given[1], given[2]), own_last(heard, given[0])))


def answer_till(meeting, given):
    return show_reading(hold_till(meeting.world, meeting.heard(given[0]), (given[1], given[2])))


# The rows that ask, by their first words: of what kind each word behind it is, n a number, x a name; and the answer.
ASKING = {
    "log": ("", answer_log),
    "heard": ("n", answer_heard),
    "news": ("nx", answer_news),
    "when": ("n", answer_when),
    "between": ("nxx", answer_between),
    "road": ("nxx", answer_road),
    "surely": ("nxx", answer_surely),
    "latest": ("nxxn", answer_latest),
    "but": ("nn", answer_but),
    "at": ("nn", answer_at),
    "first": ("nn", answer_first),
    "last": ("nn", answer_last),
    "date": ("n", answer_date),
    "out": ("nx", answer_out),
    "holds": ("nxn", answer_holds),
    "till": ("nxn", answer_till),
}


def read_word(kind, word):
    return read_name(word) if kind == "x" else read_number(word)


def read_asking(words):
    """What a row that asks tells behind its first word."""
    kinds = ASKING[words[0]][0]
    if len(words) - 1 != len(kinds):
        raise NoText("the row has a word too many or too few")
    return [read_word(kind, word) for kind, word in zip(kinds, words[1:])]


def read_given(row):
    words = row.split(" ")
    try:
        return read_asking(words) if words[0] in ASKING else read_row(row)
    except NoText:
        raise NoRow("this is none of the rows") from None


class Desk:
    def __init__(self):
        self.meeting = None

    def say(self, row):
        if not isinstance(row, str):
            raise NoRow("this is no text")
        if row.startswith(BEGINNING):
            return self.begin(row[len(BEGINNING):])
        if self.meeting is None:
            raise NoRow("no world stands")
        given = read_given(row)
        word = row.split(" ")[0]
        if word not in ASKING:
            return show_name(self.meeting.tell(given))
        answer = ASKING[word][1]
        return answer(self.meeting, given)

    def begin(self, text):
        self.meeting = Meeting(read_world(text))
        return "ok"
