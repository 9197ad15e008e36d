"""The tests of the package fewheld."""
