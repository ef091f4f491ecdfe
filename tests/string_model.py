"""Question strings worked on as strings, to compare with what the package does with objects."""

import re

NUMBER = r"(?:0|-?[1-9][0-9]{0,8})"
PAIR = rf"{NUMBER}(?:\.\.{NUMBER})?"
CONDITION = re.compile(rf"([a-z]{{1,8}})=(?:-|\?|({PAIR}(?:,{PAIR})*)(?:,\?)?)")
EVERY = frozenset(range(-9999, 10000))


def split(text, word):
    """Split a text at a word that stands outside of parentheses."""
    parts, depth, begin = [], 0, 0
    for k, character in enumerate(text):
        depth += {"(": 1, ")": -1}.get(character, 0)
        if depth == 0 and text.startswith(word, k):
            parts.append(text[begin:k])
            begin = k + len(word)
    return parts + [text[begin:]]


def columns_in(text):
    """Return the columns of a text, in the order in which they stand there."""
    return re.findall(r"([a-z]+)=", text)


def is_question_string(text):
    """Tell whether a string is the string of a question."""
    columns = columns_in(text)
    if len(columns) > 8 or len(set(columns)) < len(columns):
        return False
    return is_condition(text) or is_and(text) or is_or(text)


def in_order(parts):
    """Tell whether there are two or more parts, in the order of their least columns."""
    leasts = [min(columns_in(part), default="") for part in parts]
    return len(parts) > 1 and leasts == sorted(leasts)


def is_or(text):
    parts = split(text, " or ")
    return in_order(parts) and all(is_condition(part) or is_and(part) for part in parts)


def is_and(text):
    parts = split(text, " and ")
    return in_order(parts) and all(
        is_condition(part) or part[:1] == "(" and part[-1:] == ")" and is_or(part[1:-1]) for part in parts)


def is_condition(text):
    match = CONDITION.fullmatch(text)
    if match is None or match[1] in ("and", "or"):
        return False
    words = match[2].split(",") if match[2] else []
    last = -10001
    for word in words:
        ends = [int(end) for end in word.split("..")]
        if ends[0] < last + 2 or ends[-1] > 9999 or len(ends) == 2 and ends[0] >= ends[1]:
            return False
        last = ends[-1]
    return len(words) <= 4


def taken(condition):
    """Return the integers that a condition takes, with None if it takes missing values."""
    found = set()
    for word in condition.split("=")[1].split(","):
        if word == "?":
            found.add(None)
        elif word != "-":
            ends = [int(end) for end in word.split("..")]
            found.update(range(ends[0], ends[-1] + 1))
    return found


def runs(numbers):
    """Return the pairs of a set of integers."""
    lows = sorted(number for number in numbers if number - 1 not in numbers)
    highs = sorted(number for number in numbers if number + 1 not in numbers)
    return list(zip(lows, highs))


def condition_of(column, values):
    """Return the string of the condition that takes these values, and the number of its pairs."""
    pairs = runs(values - {None})
    words = [str(low) if low == high else f"{low}..{high}" for low, high in pairs]
    words += ["?"] if None in values else []
    return column + "=" + (",".join(words) or "-"), len(pairs)


def parts_of(text, word):
    """Return the parts that a question brings into an and or an or, without parentheses around them."""
    parts = split(text, word)
    if len(parts) == 1 or word == " or ":
        return parts
    if len(split(text, " or ")) > 1:
        return [text]
    return [part[1:-1] if part[0] == "(" else part for part in parts]


def opposite(text):
    """Return the string of the opposite question, or the error as a pair."""
    for word, other in ((" or ", " and "), (" and ", " or ")):
        parts = parts_of(text, word)
        if len(parts) > 1:
            opposites = [opposite(part) for part in parts]
            errors = [part for part in opposites if isinstance(part, tuple)]
            return errors[0] if errors else put_together(opposites, other)
    values = taken(text)
    string, many = condition_of(columns_in(text)[0], EVERY - values | ({None} - values))
    return ("TooMany", 4) if many > 4 else string


def put_together(parts, word):
    """Return the string of parts."""
    parts = sorted(parts, key=lambda part: min(columns_in(part)))
    return word.join(f"({part})" if word == " and " and " or " in part else part for part in parts)


def joined(one, other, word):
    """Return the string of the and or the or of two questions, or the error as a pair."""
    conditions, rest, most = {}, [], 0
    for part in parts_of(one, word) + parts_of(other, word):
        column = part.split("=")[0]
        if " " in part:
            rest.append(part)
        elif column in conditions:
            ours, theirs = taken(conditions[column]), taken(part)
            conditions[column], many = condition_of(column, ours & theirs if word == " and " else ours | theirs)
            most = max(most, many)
        else:
            conditions[column] = part
    parts = list(conditions.values()) + rest
    columns = [column for part in parts for column in columns_in(part)]
    doubled = [column for column in columns if columns.count(column) > 1]
    if doubled:
        return ("Twice", min(doubled))
    if len(columns) > 8:
        return ("TooMany", 8)
    if most > 4:
        return ("TooMany", 4)
    return parts[0] if len(parts) == 1 else put_together(parts, word)
