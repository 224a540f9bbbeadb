"""The tests of everycount."""
