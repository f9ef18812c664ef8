package lease_test

import (
	"math"
	"math/big"
	"slices"
	"testing"

	"shipwright/api"
	"shipwright/drift"
	"shipwright/lease"
)

// toldLeft is what the chapters' words leave of Hold, by numbers that know no end, and whether drift.Holds.
func toldLeft(c api.Config, asked, now int64) (left *big.Int, holds bool) {
	past := new(big.Int).Sub(big.NewInt(now), big.NewInt(asked))
	left = new(big.Int).Sub(big.NewInt(c.Hold), past)
	for _, n := range []int64{asked, now} {
		if n < 0 || n > last {
			return left, false
		}
	}
	return left, past.Sign() >= 0 && left.Sign() > 0
}

// toldMajority tells whether more than half of a plan's nodes are in a list.
func toldMajority(c api.Config, l []int) bool {
	in, out := 0, 0
	for node := range c.Nodes {
		if slices.Contains(l, node) {
			in++
		} else {
			out++
		}
	}
	return in > out
}

// told is what the chapter's words say of a lease: whether it is held, late, and whether an install fits.
func told(c api.Config, l api.Lease, now int64) (held, late, fits bool) {
	if drift.Check(c) != api.OK {
		return false, false, false
	}
	left, holds := toldLeft(c, l.Asked, now)
	held = holds && toldMajority(c, l.From)
	late = !held || left.Cmp(big.NewInt(c.Guard)) <= 0
	fits = held && left.Cmp(big.NewInt(c.Guard+c.Work)) > 0
	return held, late, fits
}

// toldGrant is what the chapter's words say of a Grant: whether a node stands behind those who were there.
func toldGrant(c api.Config, l api.Lease, node, slot int, nonce int64) bool {
	return drift.Check(c) == api.OK && slot == l.Slot && nonce == l.Nonce && slices.Contains(upTo(c.Nodes), node) && !slices.Contains(l.From, node)
}

// P16.1 to P16.3: what stands here of the chapter's words tells of its examples what it says.
func TestTold(t *testing.T) {
	c, l := plan(), from(1, 2)
	for i, want := range map[int64][3]bool{10004: {true, true, false}, 10005: {false, true, false}, 7904: {true, false, true}, 7905: {true, false, false}} {
		if held, late, fits := told(c, l, i); [3]bool{held, late, fits} != want {
			t.Errorf("at %d: %v %v %v", i, held, late, fits)
		}
	}
	if !toldGrant(c, l, 0, 1, 7) || toldGrant(c, l, 1, 1, 7) || toldGrant(c, l, 0, 0, 7) || toldGrant(c, l, 3, 1, 7) {
		t.Error("a Grant is told otherwise")
	}
	if toldSlot(c, 2, 5) != 1 || toldSlot(c, -1, 4) != 0 || toldSlot(c, 1000, maxTry+1) != 0 {
		t.Error("a Slot is told otherwise")
	}
}

// drawnNodes is a list of nodes, mostly of so many.
func drawnNodes(k *uint64, nodes int) []int {
	l := make([]int, draw(k, 2*nodes+2))
	for i := range l {
		l[i] = draw(k, nodes)
		switch draw(k, 10) {
		case 0:
			l[i] = ends[draw(k, len(ends))]
		case 1:
			l[i] += draw(k, 3) - 1
		}
	}
	return l
}

// drawnTime is a number around those that mean something to a lease that was asked for at a time.
func drawnTime(k *uint64, c api.Config, asked int64) int64 {
	l := []int64{0, 0, c.Hold, c.Hold - c.Guard, c.Hold - c.Guard - c.Work, c.Hold - c.Guard - c.Work, c.Grant, int64(draw(k, int(c.Hold)+1)), int64(draw(k, int(c.Hold)+1))}
	if draw(k, 20) == 0 {
		return numbers[draw(k, len(numbers))]
	}
	return asked + l[draw(k, len(l))] + int64(draw(k, 5)-2)
}

// drawnAsked is a time at which one asks, or a number that is none.
func drawnAsked(k *uint64) int64 {
	if draw(k, 10) == 0 {
		return numbers[draw(k, len(numbers))]
	}
	return []int64{0, 5, 1 << 31, 1 << 40, last - 5000}[draw(k, 5)] + int64(draw(k, 2))
}

// P16.1 to P16.3: calls of all kinds, of leases of all kinds, held against the chapter's words.
func TestAsTold(t *testing.T) {
	k := uint64(16)
	var grants, holds, lates, fit int
	for range 5000 {
		for _, c := range append(plans(), api.Config{}) {
			l := api.Lease{Slot: draw(&k, 3) - 1, Nonce: int64(draw(&k, 3) - 1), Asked: drawnAsked(&k), From: drawnNodes(&k, max(c.Nodes, 1))}
			node, slot, nonce := draw(&k, c.Nodes+2)-1, l.Slot+draw(&k, 5)/4, l.Nonce-int64(draw(&k, 5)/4)
			grant := toldGrant(c, l, node, slot, nonce)
			mustGrant(t, c, l, node, slot, nonce, grant)
			now := drawnTime(&k, c, l.Asked)
			held, late, fits := told(c, l, now)
			mustTell(t, c, l, now, held, late, fits)
			grants, holds, lates, fit = grants+count(grant), holds+count(held), lates+count(held && late), fit+count(fits)
		}
	}
	if grants < 5000 || holds < 10000 || lates < 5000 || fit < 5000 {
		t.Errorf("just %d grant, %d are held, %d of them late, %d fit", grants, holds, lates, fit)
	}
}

// count is 1 of what is so.
func count(is bool) int {
	if is {
		return 1
	}
	return 0
}

// P16.2: each of many lists of granters, at each time that means something, held against the chapter's words.
func TestAllAsTold(t *testing.T) {
	for _, c := range []api.Config{plan(), sized(1, 1), sized(2, 1), drifting(0), drifting(api.MaxRho), {}} {
		for _, list := range lists(3, []int{math.MinInt, -1, 0, 1, 2, 3}) {
			for _, now := range []int64{-1, 4, 5, 6, 7904, 7905, 8904, 8905, 10004, 10005, 20005, math.MaxInt64} {
				held, late, fits := told(c, from(list...), now)
				mustTell(t, c, from(list...), now, held, late, fits)
			}
			for node := -1; node <= 3; node++ {
				mustGrant(t, c, from(list...), node, 1, 7, toldGrant(c, from(list...), node, 1, 7))
			}
		}
	}
}

// lists are all lists of at most so many members, each one of some.
func lists(many int, some []int) [][]int {
	all := [][]int{nil}
	for i := 0; many > 0; many-- {
		end := len(all)
		for ; i < end; i++ {
			for _, n := range some {
				all = append(all, append(slices.Clone(all[i]), n))
			}
		}
	}
	return all
}

// R5: of a map's order nothing is to be seen: the same lease is told of in the same way, over and over.
func TestToldOverAndOver(t *testing.T) {
	c, l := sized(9, 2), from(8, -1, 3, 3, 9, 0, 77, 5, 8)
	for range 1000 {
		mustNotHold(t, c, l, 5)
		mustTell(t, c, lease.Grant(c, l, 1, 1, 7), 5, true, false, true)
	}
}
