"""Games that are made of games, which are made of others again."""


def work_out(known, key, options, make):
    """Works out the game of a key, and before it those of all keys that it hangs on, into the dict `known`.

    `options(key)` tells the keys of the left and of the right options, a pair of lists, and
    `make(key, lefts, rights)` the game with these options. A list of keys that wait takes the place of
    calls within calls, as Python does not nest these as deep as heights may add up.
    """
    waiting = [(key, None)]
    while waiting:
        key, sides = waiting.pop()
        if key in known:
            continue
        if sides is None:
            sides = options(key)
            waiting.append((key, sides))
            waiting.extend([(option, None) for option in sides[0] + sides[1] if option not in known])
        else:
            lefts = [known[option] for option in sides[0]]
            rights = [known[option] for option in sides[1]]
            known[key] = make(key, lefts, rights)
    return known[key]
