"""The tests of dirservice."""
