package lease_test

import (
	"math"
	"slices"
	"testing"

	"shipwright/api"
	"shipwright/drift"
	"shipwright/lease"
)

// P16.2: one fewer than a majority is not enough, just as many are, of each number of nodes, whoever they are.
func TestHeldByMajority(t *testing.T) {
	for nodes := 1; nodes <= api.MaxNodes; nodes++ {
		c := sized(nodes, 1)
		majority := drift.Majority(c)
		for first := range nodes {
			var l []int
			for many := range nodes + 1 {
				if many > 0 {
					l = append(l, (first+many-1)%nodes)
				}
				mustTell(t, c, from(l...), 5, many >= majority, many < majority, many >= majority)
			}
		}
	}
}

// P16.2: so it is of a lease that is granted node by node.
func TestHeldOnceEnoughGranted(t *testing.T) {
	for _, c := range plans() {
		l := lease.Ask(0, 7, 5)
		for node := c.Nodes - 1; node >= 0; node-- {
			l = mustGrant(t, c, l, node, 0, 7, true)
			if held := lease.Held(c, l, 5); held != (2*(c.Nodes-node) > c.Nodes) {
				t.Errorf("%+v of %d nodes: %v", l, c.Nodes, held)
			}
		}
	}
}

// P16.2: one twice counts once, and who is none of the plan's nodes counts not at all, wherever they stand.
func TestHeldByThoseWhoCount(t *testing.T) {
	c := plan()
	for _, nodes := range [][]int{nil, {0}, {2}, {1, 1}, {1, 3}, {3, 1}, {1, -1}, {-1, 1}, {0, 0, 0}, {3, 4, 5}, {-1, -2, -3}, {3, 3, 1, 1, -1, -1}, {1 << 32, 0}, {0, 1<<32 + 1}, {2, math.MinInt, math.MaxInt}, {-1 << 32, 1}, {256, 1}, {1, 258}} {
		mustNotHold(t, c, from(nodes...), 5)
	}
	for _, nodes := range [][]int{{0, 1}, {1, 0}, {2, 0}, {1, 2}, {0, 1, 2}, {1, 1, 0}, {0, 1, 1}, {1, 0, 1}, {3, 0, 4, 2}, {-1, 2, 1}, {2, 1, -1}, {0, -1, 3, 1}, {math.MinInt, 0, math.MaxInt, 0, 2}, {2, 2, 2, 2, 1}} {
		mustTell(t, c, from(nodes...), 5, true, false, true)
	}
}

// P16.2: of each number of nodes, a majority's members that no node has, or that one has who is there, leave it short.
func TestHeldIsNotFilledUp(t *testing.T) {
	for nodes := 1; nodes <= api.MaxNodes; nodes++ {
		c := sized(nodes, 1)
		short := upTo(drift.Majority(c) - 1)
		for _, more := range append([]int{nodes, nodes + 1}, ends...) {
			mustNotHold(t, c, from(slices.Concat(short, []int{more, more})...), 5)
			mustNotHold(t, c, from(slices.Concat([]int{more, more}, short)...), 5)
			mustTell(t, c, from(slices.Concat(short, []int{more, nodes - 1})...), 5, true, false, true)
		}
		for range 20 {
			short = slices.Concat(short, short[:min(len(short), 5)])
			mustNotHold(t, c, from(short...), 5)
		}
	}
}

// P16.2: which slot, and by which number, does not matter to what is held.
func TestHeldOfAnySlot(t *testing.T) {
	c := plan()
	for _, slot := range append([]int{0, 1, 2}, ends...) {
		for _, nonce := range numbers {
			mustTell(t, c, api.Lease{Slot: slot, Nonce: nonce, Asked: 5, From: []int{2, 1}}, 5, true, false, true)
		}
	}
}

// P16.2: it is held from its asking on, and ends where drift.Holds does, asked for at several times.
func TestHeldInTime(t *testing.T) {
	for _, c := range plans() {
		for _, asked := range []int64{0, 1, 5, 1 << 31, 1 << 32, 1 << 40, last - c.Hold - 1} {
			for _, l := range []api.Lease{byMajority(c, asked), since(asked, upTo(c.Nodes)...)} {
				mustNotHold(t, c, l, asked-1)
				mustHold(t, c, l, asked)
				mustHold(t, c, l, asked+c.Hold-1)
				mustNotHold(t, c, l, asked+c.Hold)
				mustNotHold(t, c, l, asked+c.Hold+1)
			}
		}
	}
}

// P16.2: by clocks at the drift's edges it is held tick by tick just while drift.Holds says so, and the tick at which it begins is late, or fits, as the words say.
func TestHeldTickByTick(t *testing.T) {
	for _, c := range edges() {
		for _, told := range []int{math.MinInt, 1000, math.MaxInt} {
			gain := drift.Gain(c, told)
			l, ticks := byMajority(c, 3), 0
			for now := int64(3); drift.Holds(c, 3, now); now += gain {
				left := c.Hold - (now - 3)
				mustTell(t, c, l, now, true, left <= c.Guard, left > c.Guard+c.Work)
				ticks++
			}
			if want := int((c.Hold + gain - 1) / gain); ticks != want {
				t.Errorf("Rho %d, told %d: held at %d ticks instead of %d", c.Rho, told, ticks, want)
			}
			for more := range 5 {
				mustNotHold(t, c, l, 3+int64(ticks+more)*gain)
			}
		}
	}
}

// P16.2: with now ahead of Asked, or one of both no time, none is held, all are late, and nothing fits.
func TestHeldAtNoTime(t *testing.T) {
	for _, c := range plans() {
		for _, now := range []int64{math.MinInt64, math.MinInt64 + 1, -last, -1, 0, 4, 1<<40 - 1, last - 1, last + 1, math.MaxInt64 - 1, math.MaxInt64} {
			mustNotHold(t, c, byMajority(c, last), now)
		}
		for _, asked := range []int64{math.MinInt64, math.MinInt64 + 5, -last, -c.Hold, -1, last + 1, math.MaxInt64 - 1, math.MaxInt64} {
			for _, now := range append([]int64{asked - 1, asked, asked + 1, asked + c.Hold - 1}, numbers...) {
				mustNotHold(t, c, byMajority(c, asked), now)
			}
		}
		mustNotHold(t, c, byMajority(c, 5), 4)
		mustNotHold(t, c, byMajority(c, 5), 0)
		mustHold(t, c, byMajority(c, last), last)
		mustHold(t, c, byMajority(c, 0), 0)
	}
}

// P16.2: times so far apart that no number is their difference.
func TestHeldFarApart(t *testing.T) {
	for _, c := range plans() {
		for _, asked := range []int64{math.MinInt64, math.MinInt64 + 1, math.MinInt64 + c.Hold, -2, 0, 2} {
			for _, now := range []int64{math.MaxInt64, math.MaxInt64 - 1, math.MaxInt64 - c.Hold, last, 1 << 40} {
				mustNotHold(t, c, byMajority(c, asked), now)
				mustNotHold(t, c, byMajority(c, now), asked)
			}
		}
	}
}
