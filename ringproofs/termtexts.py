"""The texts of TERMs and BINDINGs."""

from ringproofs.errors import BadText
from ringproofs.terms import fold, is_binding

# TERMs have 40 signs.  A text of far more is refused: Python's own == and < of
# tuples call themselves as deep as these are, so such a TERM could break them later.
MOST_SIGNS = 200


def _text_of(part, texts):
    if isinstance(part, int):
        return f"x{part}"
    if not texts:
        return part[0]
    inner = ",".join(texts)
    return f"{part[0]}({inner})"


def term_text(term):
    """The text of a TERM."""
    return fold(term, _text_of)


def _number_of(sign):
    """The variable of which a sign is the name, maybe with noughts ahead; else None."""
    if sign[:1] == "x" and len(sign) <= 3 and sign[1:].isdecimal():
        return int(sign[1:])
    return None


def _from_signs(signs):
    """The TERM whose signs stand so, one behind the other; else None."""
    made = []
    for sign in reversed(signs):
        if sign == "0":
            made.append(("0",))
        elif sign == "s" and made:
            made.append(("s", made.pop()))
        elif sign == "f" and len(made) > 1:
            left = made.pop()
            made.append(("f", left, made.pop()))
        elif _number_of(sign) is not None:
            made.append(_number_of(sign))
        else:
            return None
    return made[0] if len(made) == 1 else None


def term_or_none(text):
    """The TERM whose text it is, else None."""
    # Each sign takes a fixed number of TERMs, so the signs alone tell the TERM;
    # whether all else stands as it has to is told by the text that this TERM has.
    signs = text.replace("(", " ").replace(")", " ").replace(",", " ").split()
    term = _from_signs(signs) if len(signs) <= MOST_SIGNS else None
    if term is None or term_text(term) != text:
        return None
    return term


def term_in(text):
    """The TERM whose text it is; BadText(text) where there is none."""
    term = term_or_none(text)
    if term is None:
        raise BadText(text)
    return term


def binding_text(binding):
    """The text of a BINDING."""
    return " ".join([f"x{variable}={term_text(term)}" for variable, term in binding]) or "-"


def _pair_in(text):
    variable, _, term = text.partition("=")
    return (term_or_none(variable), term_or_none(term))


def binding_or_none(text):
    """The BINDING whose text it is, else None."""
    if text == "-":
        return ()
    binding = tuple([_pair_in(row) for row in text.split(" ")])
    return binding if is_binding(binding) else None


def binding_in(text):
    """The BINDING whose text it is; BadText(text) where there is none."""
    binding = binding_or_none(text)
    if binding is None:
        raise BadText(text)
    return binding
