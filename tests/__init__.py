"""The tests of maskedlevels."""
