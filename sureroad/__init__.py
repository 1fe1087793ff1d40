"""Sureroad: messages over roads that lose, double and spoil, told again until they are there."""
