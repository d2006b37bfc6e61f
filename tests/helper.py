"""How the tests write calls down and read answers back."""

from claimskept.claims import answers


def text_numbers(text):
    return list(text) if isinstance(text, (bytes, list)) else [ord(sign) for sign in text]


def row(text):
    numbers = text_numbers(text)
    return [len(numbers)] + numbers


def table(text):
    return [0] + row(text)


def claim(level, owner, text):
    return [1, level] + row(owner) + row(text)


def put(name, text):
    return [2] + row(name) + row(text)


def take(number, name):
    return [3, number] + row(name)


def status():
    return [4]


def breakers(number):
    return [5, number]


def alerts(level):
    return [6, level]


def owned(owner):
    return [7] + row(owner)


def turns():
    return [8]


def day():
    return [9]


def history(number):
    return [10, number]


def drift(number, most):
    return [11, number, most]


def shown(name):
    return [12] + row(name)


def undo():
    return [13]


def split(told):
    found = []
    place = 0
    while place < len(told):
        count = told[place]
        found.append(told[place + 1:place + 1 + count])
        place += 1 + count
    assert place == len(told), "an answer is shorter than its length says"
    return found


def run(*calls):
    """The answers, call by call; also sees to it that only what may be handed in is."""
    numbers = [number for call in calls for number in call]
    assert 1 <= len(calls) <= 60 and len(numbers) <= 17000
    found = split(answers(numbers))
    assert len(found) == len(calls)
    return found


def last(*calls):
    return run(*calls)[-1]


def told_turns(*calls):
    """What turns answers behind these calls: how many there were, and the text."""
    answer = last(*calls, turns())
    return answer[0], bytes(answer[1:]).decode("ascii")


def told_table(name, *calls):
    """The text that shown answers behind these calls."""
    return bytes(last(*calls, shown(name))).decode("ascii")


def questions(names, count):
    """Everything that can be asked of these tables, so many claims, and those that aren't there."""
    asked = [status(), turns(), owned("ann"), owned("o")]
    asked.extend(shown(name) for name in names)
    asked.extend(alerts(level) for level in range(3))
    for number in range(count + 1):
        asked.extend([breakers(number), history(number), drift(number, 0)])
    return asked


def padded(text, size):
    """The text with blanks behind it, so that it has so many bytes."""
    assert len(text) <= size
    return text + " " * (size - len(text))
