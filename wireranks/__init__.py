"""Messages that share one wire: see README.md."""
