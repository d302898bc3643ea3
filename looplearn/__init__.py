"""Looplearn: a learner of words that reads a loop for ever."""
