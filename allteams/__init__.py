"""All teams of a size dealt to rounds, and the tables that tell of them."""
