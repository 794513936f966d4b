"""Newletters: words retold in other alphabets, as short as can be."""
