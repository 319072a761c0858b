"""The texts of rules by all their forms, and texts to change them with."""


def numbers(least, most):
    return {str(number) for number in range(least, most + 1)}


def forms():
    """All rows of sets of words that the text of a rule may have."""
    rests = [()] + [({"rest"}, {str(rest)}, {"of"}, {str(modulus)}) for modulus in range(2, 7) for rest in range(modulus)]
    leaves = [(), ({"leave"}, numbers(1, 400))]
    fixed = [({"fixed"}, numbers(1, 400), *rest, *leave) for rest in rests for leave in leaves]
    return fixed + [({"down"}, numbers(0, 400), *rest) for rest in rests]


FORMS = forms()


def first_wrong(words):
    """The index of the first word that no right text has behind those ahead, or their number if one lacks; else None."""
    open_forms = FORMS
    for at, word in enumerate(words):
        open_forms = [form for form in open_forms if len(form) > at and word in form[at]]
        if not open_forms:
            return at
    return None if any(len(form) == len(words) for form in open_forms) else len(words)


RIGHT = ["fixed 4", "fixed 1", "fixed 400", "fixed 4 rest 1 of 3", "fixed 4 leave 2", "fixed 4 rest 1 of 3 leave 2",
         "fixed 10 rest 0 of 2", "fixed 399 rest 5 of 6 leave 400", "fixed 1 rest 4 of 5 leave 1", "down 0", "down 400",
         "down 7", "down 0 rest 1 of 3", "down 400 rest 5 of 6", "down 12 rest 0 of 4"]

OTHER_WORDS = ["", "0", "1", "2", "3", "5", "6", "7", "10", "400", "401", "999", "1000", "04", "+4", "-4", "-1", "00", "4.0",
               "4_0", " 4", "fixed", "down", "rest", "of", "leave", "Fixed", "fixed\n", "\n", "4\n", "-", "|", ",", "fixed,",
               "x" * 50, "1" * 500, "True", "None"]
