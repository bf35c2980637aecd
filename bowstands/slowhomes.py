"""Ways home while flags flicker, the hands having turns."""

from bowstands.bounds import MAX_SLOW
from bowstands.errors import TooMany
from bowstands.flickers import made, next_words
from bowstands.homes import tries_most
from bowstands.manners import evens
from bowstands.standings import REST


def slow_bound(manners):
    """Return how many slow steps at most all make till all rest, if they have turns and nobody begins any more."""
    many = len(manners[0])
    return sum([tries_most(manners, hand) * (len(evens(manners, hand)) + many + 5) for hand in range(many)])


def slow_home(manners, standing, row, sights):
    """Return the slow run from standing on by turns in the order of row; sights tell what is seen of changing flags."""
    run = []
    now = standing
    turns = 0
    forks = 0
    while _is_anybody_able(manners, now):
        hand = row[turns % len(row)]
        turns += 1
        words = _home_words(manners, now, hand)
        word = words[0]
        if len(words) == 2:
            word = words[sights[forks % len(sights)]]
            forks += 1
        if word == "wait":
            continue
        if len(run) == MAX_SLOW:
            raise TooMany(MAX_SLOW)
        now = made(manners, now, hand, word)
        run.append((hand, word))
    return tuple(run)


def _home_words(manners, standing, hand):
    """Return the words of the steps that hand may make next, as nobody begins."""
    if standing[0][hand] == REST:
        return ("wait",)
    return next_words(manners, standing, hand)


def _is_anybody_able(manners, standing):
    hands = range(len(standing[0]))
    return any([_home_words(manners, standing, hand) != ("wait",) for hand in hands])
