package lease_test

import (
	"math"
	"slices"
	"testing"

	"shipwright/api"
	"shipwright/lease"
)

// P16.1: each of the plan's nodes can grant a lease, and no other one.
func TestGrantByNodes(t *testing.T) {
	for _, c := range plans() {
		l := lease.Ask(0, 7, 5)
		for _, node := range append([]int{c.Nodes, c.Nodes + 1}, ends...) {
			mustGrant(t, c, l, node, 0, 7, false)
		}
		for node := range 10 {
			mustGrant(t, c, l, node, 0, 7, node < c.Nodes)
		}
	}
}

// P16.1: a node stands behind those who were there, in whatever order they come, and no order is made of them.
func TestGrantStandsBehind(t *testing.T) {
	c := sized(9, 2)
	for _, order := range [][]int{{0, 1, 2, 3, 4, 5, 6, 7, 8}, {8, 7, 6, 5, 4, 3, 2, 1, 0}, {4, 8, 0, 5, 1, 7, 2, 6, 3}} {
		l := from()
		for i, node := range order {
			l = mustGrant(t, c, l, node, 1, 7, true)
			mustBe(t, "Grant", l, from(order[:i+1]...))
		}
	}
}

// P16.1: who granted a lease is not told again, whenever that was.
func TestGrantAgain(t *testing.T) {
	for _, c := range plans() {
		l := since(5)
		for node := c.Nodes - 1; node >= 0; node-- {
			l = mustGrant(t, c, l, node, 1, 7, true)
			for again := node; again < c.Nodes; again++ {
				l = mustGrant(t, c, l, again, 1, 7, false)
			}
		}
	}
}

// P16.1: just the slot that was asked for counts, be it one that the plan has or not.
func TestGrantOfSlots(t *testing.T) {
	c := plan()
	slots := append([]int{0, 1, 2, 3, 9}, ends...)
	for _, asked := range slots {
		l := lease.Ask(asked, 7, 5)
		for _, slot := range slots {
			mustGrant(t, c, l, 0, slot, 7, slot == asked)
			mustGrant(t, c, l, 2, slot, 7, slot == asked)
		}
	}
}

// P16.1: just the number that was asked by counts, be it one that is asked by or not.
func TestGrantByNumbers(t *testing.T) {
	c := plan()
	for _, asked := range append([]int64{6, 8, 7 + 1<<32}, numbers...) {
		l := lease.Ask(1, asked, 5)
		for _, nonce := range append([]int64{6, 8, 7 + 1<<32}, numbers...) {
			mustGrant(t, c, l, 0, 1, nonce, nonce == asked)
			mustGrant(t, c, l, 2, 1, nonce, nonce == asked)
		}
	}
}

// P16.1: a slot and a number that changed places are none.
func TestGrantOfSlotAndNumberApart(t *testing.T) {
	c := plan()
	l := lease.Ask(1, 2, 0)
	mustGrant(t, c, l, 0, 2, 1, false)
	mustGrant(t, c, l, 0, 1, 1, false)
	mustGrant(t, c, l, 0, 2, 2, false)
	mustGrant(t, c, l, 1, 0, 2, false)
	mustGrant(t, c, l, 0, 1, 2, true)
}

// P16.1: when a lease was asked for does not matter to a Grant.
func TestGrantAtAnyTime(t *testing.T) {
	c := plan()
	for _, asked := range numbers {
		mustGrant(t, c, since(asked), 0, 1, 7, true)
		mustGrant(t, c, since(asked, 0), 0, 1, 7, false)
		mustGrant(t, c, since(asked, 0), 1, 1, 7, true)
	}
}

// handMade are such as no Grant answers, of a plan of three nodes: one twice, one below 0, one that the plan has not, in any order.
func handMade() [][]int {
	return [][]int{
		{1, 1}, {0, 0, 0}, {2, 1, 2}, {-1}, {-1, -1, 1}, {3}, {3, 0}, {0, 3, 4, 9, 3}, {2, -1, 3, 0, 2, -5},
		{math.MinInt, math.MaxInt}, {math.MaxInt, 2, math.MinInt, 1, -1 << 32, 1 << 32}, {2, 1, 0}, {2, 0, 1, 0}, slices.Repeat([]int{1}, 300),
	}
}

// P16.1: of a lease made by hand who is in it stays, as often and where it is; and one more is told just if it is not there.
func TestGrantOfHandMadeLeases(t *testing.T) {
	c := plan()
	for _, nodes := range handMade() {
		for node := range 3 {
			mustGrant(t, c, from(nodes...), node, 1, 7, !slices.Contains(nodes, node))
		}
		for _, node := range append([]int{3, 4, 9}, ends...) {
			mustGrant(t, c, from(nodes...), node, 1, 7, false)
		}
		mustGrant(t, c, from(nodes...), 0, 0, 7, false)
		mustGrant(t, c, from(nodes...), 0, 1, 6, false)
	}
}

// P16.1: who is none of a plan's nodes by one plan may be one by another.
func TestGrantByEachPlan(t *testing.T) {
	l := from(7, 0)
	mustGrant(t, sized(7, 2), l, 7, 1, 7, false)
	mustGrant(t, sized(7, 2), l, 6, 1, 7, true)
	mustGrant(t, sized(8, 2), l, 7, 1, 7, false)
	mustGrant(t, sized(8, 2), from(0), 7, 1, 7, true)
	mustGrant(t, sized(7, 2), from(0), 7, 1, 7, false)
}

// P16.1: just one of what does not fit is enough to leave a lease as it is.
func TestGrantRefusesEachAlone(t *testing.T) {
	c, l := plan(), from(1)
	mustGrant(t, c, l, 2, 1, 7, true)
	mustGrant(t, c, l, 1, 1, 7, false)
	mustGrant(t, c, l, 3, 1, 7, false)
	mustGrant(t, c, l, -1, 1, 7, false)
	mustGrant(t, c, l, 2, 0, 7, false)
	mustGrant(t, c, l, 2, 2, 7, false)
	mustGrant(t, c, l, 2, 1, 6, false)
	mustGrant(t, c, l, 2, 1, 8, false)
	mustGrant(t, varied(func(c *api.Config) { c.Pass = -1 }), l, 2, 1, 7, false)
	mustGrant(t, api.Config{}, l, 2, 1, 7, false)
}

// R1: a lease that a great many granted is gone through in good time.
func TestVeryManyGrants(t *testing.T) {
	c, many := plan(), make([]int, 1<<20)
	for i := range many {
		many[i] = i + 1
	}
	mustGrant(t, c, from(many...), 0, 1, 7, true)
	mustGrant(t, c, from(many...), 2, 1, 7, false)
	mustTell(t, c, from(many...), 5, true, false, true)
	mustNotHold(t, c, from(many[2:]...), 5)
}
