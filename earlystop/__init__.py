"""Earlystop: looks one by one, when to stop and which way to say, and papers that no rule needs fewer."""
