"""Words: the numbers at which a four is exchanged, one after another."""

from fourtouch.errors import InvalidQuestion, InvalidWord, TooMany


def is_place(number):
    """Tell whether something is a number from 1 to 4; True, which equals 1, is none."""
    return isinstance(number, int) and not isinstance(number, bool) and 1 <= number <= 4


def check_word(word):
    """Raise InvalidWord for what is no word."""
    if not isinstance(word, (tuple, list)):
        raise InvalidWord("a word is a tuple or a list")
    for number in word:
        if not is_place(number):
            raise InvalidWord("a word has numbers from 1 to 4")


def is_reduced(word):
    """Tell whether no number stands twice in a row."""
    check_word(word)
    return all([word[at] != word[at + 1] for at in range(len(word) - 1)])


def reduced(word):
    """Return the reduced word of a word."""
    check_word(word)
    kept = []
    for number in word:
        if kept and kept[-1] == number:
            kept.pop()
        else:
            kept.append(number)
    return tuple(kept)


def joined(one, other):
    """Return the reduced word of a word with another one behind it."""
    check_word(one)
    check_word(other)
    return reduced(tuple(one) + tuple(other))


def backwards(word):
    """Return the word turned round."""
    check_word(word)
    return tuple(word)[::-1]


def core_of(word):
    """Return the head and the core of the reduced word."""
    whole = reduced(word)
    size = 0
    end = len(whole) - 1
    while size < end - size and whole[size] == whole[end - size]:
        size += 1
    return (whole[:size], whole[size:len(whole) - size])


def times_of_core(core, times):
    """Return how often a core stands in the reduced word of so many, from 0 on, in a row."""
    if len(core) < 2:
        return times & 1
    return times


def repeated(word, times, *, limit=2000):
    """Return the reduced word of a word so many times in a row, backwards below 0."""
    head, core = core_of(word)
    if times < 0:
        core = core[::-1]
    many = times_of_core(core, abs(times))
    if many == 0 or not core:
        return ()
    # Looked at ahead of building: the number of times may have any number of figures.
    if 2 * len(head) + many * len(core) > limit:
        raise TooMany(limit)
    return head + core * many + head[::-1]


def order_of(word):
    """Return the least number of times from 1 on that leads back, or None."""
    core = core_of(word)[1]
    if len(core) > 1:
        return None
    return len(core) + 1


def check_length(length):
    """Raise InvalidQuestion for a length below 0."""
    if length < 0:
        raise InvalidQuestion("a length is not below 0")


def power_of_three(times):
    """Return 3 so many times with itself, by squaring."""
    answer = 1
    for at in reversed(range(times.bit_length())):
        answer = answer * answer
        if times >> at & 1:
            answer = answer * 3
    return answer


def word_count(length):
    """Return the number of reduced words of a length."""
    check_length(length)
    if length == 0:
        return 1
    return 4 * power_of_three(length - 1)


def is_count_above(length, limit):
    """Tell whether there are more reduced words of a length than a limit.

    The count is followed no further than to the limit, as a length may be great.
    """
    count = 1
    at = 0
    while at < length and count <= limit:
        count = count * (4 if at == 0 else 3)
        at += 1
    return count > limit


def words_of(length, *, limit=2000):
    """Return the ascending list of the reduced words of a length."""
    check_length(length)
    if is_count_above(length, limit):
        raise TooMany(limit)
    words = [()]
    for _ in range(length):
        words = [word + (number,) for word in words for number in (1, 2, 3, 4) if word[-1:] != (number,)]
    return words
