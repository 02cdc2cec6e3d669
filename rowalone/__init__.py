"""Systems of which one row alone bars every empty box."""
