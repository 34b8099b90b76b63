"""Tables, joins and questions."""
