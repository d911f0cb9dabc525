"""Fourtouch: circles that touch by fours."""
