"""Knownplay: games kept by one server, and what those who play can know from what they are told."""
