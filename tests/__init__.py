"""The tests of the package postmead."""
