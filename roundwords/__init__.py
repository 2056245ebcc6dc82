"""Words that may be turned round, told by roots."""
