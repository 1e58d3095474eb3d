"""A bank of facilities and storages; facilitybank.bank.answers is the way in."""
