package iso

import (
	"cmp"
	"slices"
)

// rows are in order: each is told by a number, and the numbers rise.
type rows[R any] struct {
	list []R
	no   func(R) int
}

// rise: are they in order?
func (r rows[R]) rise() bool {
	for i := 1; i < len(r.list); i++ {
		if r.no(r.list[i-1]) >= r.no(r.list[i]) {
			return false
		}
	}
	return true
}

// find is the place of the row of a number, or where it would stand, and whether there is one.
func (r rows[R]) find(no int) (int, bool) {
	return slices.BinarySearchFunc(r.list, no, func(one R, no int) int {
		return cmp.Compare(r.no(one), no)
	})
}

// around is what stands ahead of a number's place, and what behind it.
func (r rows[R]) around(no int) ([]R, []R) {
	at, has := r.find(no)
	if has {
		return r.list[:at], r.list[at+1:]
	}
	return r.list[:at], r.list[at:]
}

// with is a new list that has this row: one of the same number gives way to it.
func (r rows[R]) with(one R) []R {
	ahead, behind := r.around(r.no(one))
	return slices.Concat(ahead, []R{one}, behind)
}

// without is a new list that has no row of a number.
func (r rows[R]) without(no int) []R {
	ahead, behind := r.around(no)
	return slices.Concat(ahead, behind)
}

// numbers are all that the rows are told by.
func (r rows[R]) numbers() []int {
	var out []int
	for _, one := range r.list {
		out = append(out, r.no(one))
	}
	return out
}
