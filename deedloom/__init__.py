"""Deedloom: programs of words laid into beats and made into gates."""
