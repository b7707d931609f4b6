"""Tables in texts by twenty-four manners of marking off, quoting and escaping."""
