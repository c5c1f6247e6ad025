package book

import "variorum/api"

// search is an outer reference that is looked for.
type search string

// holds tells whether a journal has the reference. An empty one is none, and what a void one had is free.
func (s search) holds(j api.Journal) bool {
	return s != "" && !j.Void && j.Ref == string(s)
}

// claim is a journal that asks for its outer reference.
type claim api.Journal

// leavesRef tells whether a journal leaves the claim its reference. What stands under the claim's own
// number gives way to it; another entity has references of its own; a void claim asks for none.
func (c claim) leavesRef(j api.Journal) bool {
	return c.Void || j.Id == c.Id || j.Entity != c.Entity || !search(c.Ref).holds(j)
}
