"""The tests of commonanswer."""
