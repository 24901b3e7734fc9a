package frame

import (
	"spinet/alloc"
	"spinet/api"
	"spinet/cost"
	"spinet/count"
	"spinet/mode"
	"spinet/rank"
	"spinet/share"
	"spinet/table"
)

// Tools share out, and find vectors.
type Tools interface {
	V(n, k int) uint64
	Into(x []int, k int, i uint64) bool
	Rank(x []int) (uint64, bool)
	Alloc(m mode.Mode, trim, budget int) [api.MaxBands]int
}

// plain are tools that go by a book, whose V is theirs.
type plain struct{ *count.Book }

// Plain is plain tools.
func Plain() Tools { return plain{count.New()} }

// Into writes the vector of a rank; nothing, if there is none.
func (p plain) Into(x []int, k int, i uint64) bool {
	vector, e := rank.Unrank(p.Book, len(x), k, i)
	copy(x, vector)
	return e == api.OK
}

// Rank is a vector's rank.
func (p plain) Rank(x []int) (uint64, bool) {
	i, e := rank.Rank(p.Book, x...)
	return i, e == api.OK
}

// Alloc shares out a budget.
func (p plain) Alloc(m mode.Mode, trim, budget int) [api.MaxBands]int {
	return alloc.Alloc(p.Book, m, trim, budget)
}

// quick are tools that go by a table and a share, whose calls are theirs.
type quick struct {
	*table.Table
	*share.Share
}

// Quick is quick tools.
func Quick() Tools {
	t := table.New()
	return quick{t, share.New(cost.New(t))}
}
