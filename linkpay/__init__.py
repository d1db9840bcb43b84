"""Linkpay: a row of links, some opened, so that every amount can be handed over."""
