"""Loomlook: woven machines looked at in every weaving."""
