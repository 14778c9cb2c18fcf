"""Everygust: a craft led through walls, whatever gusts blow."""
