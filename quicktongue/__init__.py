"""Quicktongue: a language in which every program is quick, and its tools."""
