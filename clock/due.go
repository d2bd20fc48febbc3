package clock

import (
	"cmp"
	"slices"
)

// due is a name, and when it is due.
type due struct{ at, name int }

// dues are a heap, as container/heap asks for it: what is due first stands first.
type dues []due

// Len is how many there are.
func (d dues) Len() int { return len(d) }

// Less tells whether one is due ahead of another; of one time it is the least name.
func (d dues) Less(i, j int) bool {
	return cmp.Or(cmp.Compare(d[i].at, d[j].at), cmp.Compare(d[i].name, d[j].name)) < 0
}

// Swap lets two change places.
func (d dues) Swap(i, j int) { d[i], d[j] = d[j], d[i] }

// Push lays one behind the others.
func (d *dues) Push(x any) { *d = append(*d, x.(due)) }

// Pop takes the last one.
func (d *dues) Pop() any {
	last := len(*d) - 1
	x := (*d)[last]
	*d = (*d)[:last]
	return x
}

// find is where a name stands, or -1. A walk will do: there are never more than Most.
func (d dues) find(name int) int {
	return slices.IndexFunc(d, func(x due) bool { return x.name == name })
}
