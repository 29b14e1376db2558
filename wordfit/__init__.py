"""Wordfit: deterministic machines that fit given words."""
