"""Farpanes: a screen kept alike over a bad road."""
