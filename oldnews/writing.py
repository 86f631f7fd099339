"""The text of a web."""

from oldnews.checks import as_names


def format_web(names, web):
    """Returns the text of the web whose houses have the names. Raises BadNames."""
    names = as_names(web.size, names)
    lines = ["web " + str(web.size)]
    for name, table in zip(names, web.tables):
        lines.append(" ".join([name] + table_words(names, table)))
    return "\n".join(lines)


def table_words(names, table):
    """Returns the words of a line behind the name of the house."""
    kind, heard, body = table.as_row()
    if kind == "rows":
        bits = "".join([str(bit) for bit in body])
        return [kind] + [names[house] for house in heard] + [":", bits]
    hearings = [hearing_word(names, house, sign) for house, sign in heard]
    return [kind] + hearings + [":"] + [term_word(names, term) for term in body]


def hearing_word(names, house, sign):
    """Returns the word of a hearing."""
    if sign == 1:
        return names[house]
    return "!" + names[house]


def term_word(names, term):
    """Returns the word of a term."""
    if len(term) == 0:
        return "*"
    return "+".join([names[house] for house in term])
