"""Cointakes: coins that are taken head up and turn their neighbours."""
