"""Markseam: letters shaped by passes of rules, and the rules judged for all words."""
