"""Chipstack: from programs and plans of circuits to a placed machine that runs them."""
