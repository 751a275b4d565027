"""The grammar of texts as the document has it, and which words can begin a text, by all its ways at once."""

LETTERS = "abcdefghij"
GRAMMAR = {
    "PROGRAM": [("PIECE",), ("DEF", "PROGRAM")],
    "DEF": [("def", "(", "LETTERS", ")", "PIECE", ";")],
    "LETTERS": [(), ("LETTER", "LETTERS")],
    "PIECE": [("BRANCH",), ("(", ")"), ("(", "BRANCHES", ")"), ("[", "]"), ("[", "PIECES", "]"), ("new", "LETTER", "PIECE"),
              ("call", "D", "(", "LETTERS", ")")],
    "BRANCHES": [("BRANCH",), ("BRANCH", "+", "BRANCHES")],
    "PIECES": [("PIECE",), ("PIECE", "/", "PIECES")],
    "BRANCH": [("send", "LETTER", "LETTER", "PIECE"), ("take", "LETTER", "LETTER", "PIECE"), ("wait", "PIECE"), ("alike", "LETTER", "LETTER", "BRANCH"),
               ("unlike", "LETTER", "LETTER", "BRANCH")],
}


def is_kind(word, symbol):
    """Whether a word is what a symbol that is no form tells."""
    if symbol == "LETTER":
        return word in list(LETTERS)
    if symbol == "D":
        return word in [str(number) for number in range(100)]
    return word == symbol


def wrong_word(words):
    """The number of the first word such that no text begins with the words up to it; None if they are a text."""
    # An item is (form, what it is made of, how much of this has been read, where it began).
    start = ("TEXT", ("PROGRAM",), 0, 0)
    rows = [closed({start}, [], 0)]
    for place, word in enumerate(words):
        behind = {(form, parts, done + 1, began) for form, parts, done, began in rows[-1]
                  if done < len(parts) and parts[done] not in GRAMMAR and is_kind(word, parts[done])}
        if not behind:
            return place
        rows.append(closed(behind, rows, place + 1))
    return None if ("TEXT", ("PROGRAM",), 1, 0) in rows[-1] else len(words)


def closed(items, rows, place):
    """All items that come with these."""
    found = set(items)
    ahead = list(items)
    while ahead:
        form, parts, done, began = ahead.pop()
        more = []
        if done < len(parts) and parts[done] in GRAMMAR:
            more = [(parts[done], each, 0, place) for each in GRAMMAR[parts[done]]]
            # A form that can be empty has been read at once.
            if () in GRAMMAR[parts[done]]:
                more.append((form, parts, done + 1, began))
        if done == len(parts):
            earlier = found if began == place else rows[began]
            more = [(other, each, at + 1, first) for other, each, at, first in earlier if at < len(each) and each[at] == form]
        for item in more:
            if item not in found:
                found.add(item)
                ahead.append(item)
    return found
