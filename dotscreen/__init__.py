"""Dotscreen: grey pictures made to dots of few inks."""
