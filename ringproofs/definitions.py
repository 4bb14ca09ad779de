"""The rules that words are defined by."""

from ringproofs.errors import Clash, NoRule


class Definitions:
    """Rules told one by one."""

    def __init__(self, rules=()):
        self._told = []
        self._terms = {}
        for rule in rules:
            self.tell(rule)

    def tell(self, rule):
        """Takes a rule in; its place among the rules of its head's word."""
        terms = self._terms_with(rule)
        place = len(self.rules(rule[0][0]))
        self._terms = terms
        self._told.append(rule)
        return place

    def _terms_with(self, rule):
        """How many TERMs each word has, this rule's too; nothing is changed, so that a clash leaves no trace."""
        head, body = rule
        terms = dict(self._terms)
        for atom in (head, *body):
            many = len(atom) - 1
            if terms.setdefault(atom[0], many) != many:
                raise Clash(atom[0])
        return terms

    def rules(self, word):
        """The list of a word's rules, as they were told."""
        return [rule for rule in self._told if rule[0][0] == word]

    def words(self):
        """The rising list of all words, those of bodies too."""
        return sorted(self._terms)

    def terms(self, word):
        """With how many TERMs a word stands, None where it stands nowhere."""
        return self._terms.get(word)

    def all_rules(self):
        """The list of all rules, as they were told."""
        return list(self._told)

    def without(self, place):
        """Definitions of their own, the rule at that place of all_rules left out."""
        if not 0 <= place < len(self._told):
            raise NoRule(place)
        return Definitions(self._told[:place] + self._told[place + 1:])

    def twin(self):
        """Definitions of their own, with the same rules."""
        return Definitions(self._told)

    def __eq__(self, other):
        return isinstance(other, Definitions) and self._told == other._told
