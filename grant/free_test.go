package grant_test

import (
	"math"
	"testing"

	"shipwright/api"
	"shipwright/grant"
)

// P15.3: whom a slot is granted to frees it by the number of that, and just so, be it free by the clock or not.
func TestFree(t *testing.T) {
	for _, c := range plans() {
		for slot := range c.Slots {
			for _, since := range somewhen {
				for _, nonce := range []int64{0, 1, 1 << 32, math.MaxInt64} {
					a := with(up(9, those(c.Slots)...), slot, to(c.Nodes-1, nonce, since))
					mustFree(t, c, a, slot, c.Nodes-1, nonce, true)
				}
			}
		}
	}
}

// P15.3: another node, or another number, frees nothing.
func TestFreeByOthers(t *testing.T) {
	c := plan()
	a := up(0, to(1, 5, 20000), to(2, 5, 20000))
	mustFree(t, c, a, 0, 1, 5, true)
	mustFree(t, c, a, 1, 2, 5, true)
	for _, nonce := range []int64{math.MinInt64, -5, -1, 0, 1, 4, 6, 5 + 1<<32, math.MaxInt64} {
		mustFree(t, c, a, 0, 1, nonce, false)
		mustFree(t, c, a, 1, 2, nonce, false)
	}
	for _, node := range append([]int{0, 3, 4, 5}, ends...) {
		mustFree(t, c, a, 0, node, 5, false)
		mustFree(t, c, a, 1, node, 5, false)
		mustFree(t, c, a, 0, node, 0, false)
	}
	mustFree(t, c, a, 0, 2, 5, false)
	mustFree(t, c, a, 1, 1, 5, false)
}

// P15.3: a slot that is none is not freed, whatever is told of it.
func TestFreeSlots(t *testing.T) {
	for _, c := range plans() {
		for _, g := range []api.Grant{none(), to(0, 5, 9), to(-3, 0, 0)} {
			a := grant.New(c, 0)
			for i := range a.Grants {
				a.Grants[i] = g
			}
			for _, slot := range append([]int{c.Slots, c.Slots + 1}, ends...) {
				mustFree(t, c, a, slot, g.Node, g.Nonce, false)
			}
			for slot := range 10 {
				mustFree(t, c, a, slot, g.Node, g.Nonce, slot < c.Slots)
			}
		}
	}
}

// P15.3: a grant to a Node below 0, or to one that the plan has not, is freed likewise, as in New.
func TestFreeOfNoNode(t *testing.T) {
	c := plan()
	for _, node := range append([]int{3, 4, 9}, ends...) {
		for _, nonce := range []int64{math.MinInt64, -1, 0, 1, math.MaxInt64} {
			a := up(4, to(node, nonce, 77), to(1, 5, 20000))
			mustFree(t, c, a, 0, node, nonce, true)
			mustFree(t, c, a, 0, node, 3, false)
			mustFree(t, c, a, 0, 1, nonce, false)
		}
	}
	// Another number below 0 is another node.
	a := up(4, to(-2, 0, 77), to(-1, 0, 78))
	mustFree(t, c, a, 0, -1, 0, false)
	mustFree(t, c, a, 1, -2, 0, false)
	mustFree(t, c, a, 0, -2, 0, true)
	mustFree(t, c, a, 1, -1, 0, true)
}

// P15.3: what is freed can be had at once, by anyone, and by any number; what another number did not free can't.
func TestAskBehindFree(t *testing.T) {
	c := plan()
	a := mustAsk(t, c, grant.New(c, 0), 1, 1, 5, 20000, true)
	for _, node := range []int{0, 1, 2} {
		for _, nonce := range []int64{0, 4, 5} {
			mustAsk(t, c, mustFree(t, c, a, 1, 1, 5, true), 1, node, nonce, 20000, true)
			mustAsk(t, c, mustFree(t, c, a, 1, 1, 4, false), 1, node, nonce, 20001, false)
			mustAsk(t, c, mustFree(t, c, a, 0, 1, 5, false), 1, node, nonce, 20001, false)
		}
	}
}

// P15.3: what comes late, by the number of a grant that was granted again since, frees nothing; nor does what comes twice free the next one's.
func TestFreeComesLate(t *testing.T) {
	c := plan()
	a := mustAsk(t, c, grant.New(c, 0), 0, 1, 5, 20000, true)
	a = mustAsk(t, c, a, 0, 1, 6, 21000, true)
	a = mustFree(t, c, a, 0, 1, 5, false)
	a = mustFree(t, c, a, 0, 1, 6, true)
	a = mustFree(t, c, a, 0, 1, 6, false)
	a = mustAsk(t, c, a, 0, 2, 6, 21000, true)
	a = mustFree(t, c, a, 0, 1, 6, false)
	mustHold(t, c, a, 0, 21000, 2)
}

// P15.3: whom a slot is granted to, till drift.Free begins: one ahead of it, and just there.
func TestHolder(t *testing.T) {
	for _, c := range plans() {
		for _, since := range []int64{0, 1, 5, 1 << 40, last - c.Grant - 1} {
			for slot := range c.Slots {
				a := with(grant.New(c, 0), slot, to(c.Nodes-1, 3, since))
				for _, now := range []int64{since - 1, since, since + 1, since + c.Grant - 1} {
					mustHold(t, c, a, slot, now, c.Nodes-1)
				}
				mustHold(t, c, a, slot, since+c.Grant, -1)
				mustHold(t, c, a, slot, since+c.Grant+1, -1)
			}
		}
	}
}

// P15.3: of a slot that is none no one is the holder.
func TestHolderOfSlots(t *testing.T) {
	for _, c := range plans() {
		a := grant.New(c, 0)
		for i := range a.Grants {
			a.Grants[i] = to(0, 1, 7)
		}
		for _, slot := range append([]int{c.Slots, c.Slots + 1}, ends...) {
			mustHold(t, c, a, slot, 7, -1)
		}
		for slot := range c.Slots {
			mustHold(t, c, a, slot, 7, 0)
		}
	}
}

// P15.3: each slot has a holder of its own, be the node up long enough or not.
func TestHolderOfEachSlot(t *testing.T) {
	c := sized(9, 9)
	for _, boot := range somewhen {
		a := up(boot)
		for slot := range 9 {
			a.Grants = append(a.Grants, to(8-slot, int64(slot), int64(1000*slot)))
		}
		for slot := range 9 {
			mustHold(t, c, a, slot, 8000, 8-slot)
			mustHold(t, c, a, slot, 20000+int64(1000*slot)-1, 8-slot)
			mustHold(t, c, a, slot, 20000+int64(1000*slot), -1)
		}
	}
}

// P15.3: the Node that a grant has, made by hand, is answered as it is; one below 0 is no one.
func TestHolderOfOddNodes(t *testing.T) {
	c := plan()
	for _, node := range append([]int{0, 3, 9}, ends...) {
		a := up(0, none(), to(node, 5, 20000))
		mustHold(t, c, a, 1, 39999, node)
		mustHold(t, c, a, 1, 40000, -1)
	}
}

// P15.3: by numbers that are no times nothing is free.
func TestHolderAtOddTimes(t *testing.T) {
	c := plan()
	for _, now := range []int64{math.MinInt64, -last, -20000, -1, last + 1, math.MaxInt64} {
		mustHold(t, c, up(0, to(1, 1, 0), to(2, 1, 20000)), 0, now, 1)
		mustHold(t, c, up(0, to(1, 1, 0), to(2, 1, 20000)), 1, now, 2)
	}
	for _, since := range []int64{math.MinInt64, -last, -20000, -1, last - 19999, last, last + 1, math.MaxInt64} {
		for _, now := range somewhen {
			mustHold(t, c, up(0, to(1, 1, since), none()), 0, now, 1)
		}
	}
	mustHold(t, c, up(0, to(1, 1, last-20000), none()), 0, last, -1)
}
