"""The tests of markseam."""
