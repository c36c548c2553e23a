"""The tests of betweencoats."""
