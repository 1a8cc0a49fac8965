"""The tests of cornerbids."""
