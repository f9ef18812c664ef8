package lattice

import (
	"cmp"
	"slices"

	"shipwright/api"
	"shipwright/fact"
)

// measure is the number by which a fact's epoch is compared with others.
type measure func(f api.Fact) int64

// compare tells which of two facts' numbers is the lesser one.
func (m measure) compare(a, b api.Fact) int {
	return cmp.Compare(m(a), m(b))
}

// most is the greatest number of facts; 0 of none.
func (m measure) most(l []api.Fact) int64 {
	if len(l) == 0 {
		return 0
	}
	return m(slices.MaxFunc(l, m.compare))
}

// epochOf is a fact's epoch itself.
func epochOf(f api.Fact) int64 {
	return f.Epoch
}

// numberOf is which of its node's epochs a fact's is.
func numberOf(f api.Fact) int64 {
	_, n := fact.Of(f.Epoch)
	return n
}
