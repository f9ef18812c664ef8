package grant_test

import (
	"math"
	"testing"

	"shipwright/api"
	"shipwright/drift"
	"shipwright/grant"
)

// P15.2: each of the plan's slots can be had, and no other one.
func TestAskSlots(t *testing.T) {
	for _, c := range plans() {
		a := grant.New(c, 0)
		for _, slot := range append([]int{c.Slots, c.Slots + 1}, ends...) {
			mustAsk(t, c, a, slot, 0, 1, c.Grant, false)
		}
		for slot := range 10 {
			mustAsk(t, c, a, slot, 0, 1, c.Grant, slot < c.Slots)
		}
	}
}

// P15.2: each of the plan's nodes can have one, and no other one.
func TestAskNodes(t *testing.T) {
	for _, c := range plans() {
		a := grant.New(c, 0)
		for _, node := range append([]int{c.Nodes, c.Nodes + 1}, ends...) {
			mustAsk(t, c, a, 0, node, 1, c.Grant, false)
			mustAsk(t, c, a, c.Slots-1, node, 1, c.Grant, false)
		}
		for node := range 10 {
			mustAsk(t, c, a, 0, node, 1, c.Grant, node < c.Nodes)
			mustAsk(t, c, a, c.Slots-1, node, 1, c.Grant, node < c.Nodes)
		}
	}
}

// P15.2: a node that is none can't have a slot again that was granted to it by hand, by whatever number.
func TestAskAgainByNoNode(t *testing.T) {
	c := plan()
	for _, node := range append([]int{3, 4, 9}, ends...) {
		a := up(0, to(node, 1, 0), to(node, 1, 20000))
		mustAsk(t, c, a, 0, node, 2, 40000, false)
		mustAsk(t, c, a, 1, node, 2, 40000, false)
	}
}

// P15.2: a number that is not below 0 is enough.
func TestAskNonces(t *testing.T) {
	for _, c := range plans() {
		a := grant.New(c, 0)
		for _, nonce := range []int64{0, 1, 2, 1 << 31, 1 << 32, 1 << 40, last, math.MaxInt64 - 1, math.MaxInt64} {
			mustAsk(t, c, a, 0, 0, nonce, c.Grant, true)
		}
		for _, nonce := range []int64{-1, -2, -1 << 31, -1 << 32, math.MinInt64 + 1, math.MinInt64} {
			mustAsk(t, c, a, 0, 0, nonce, c.Grant, false)
			// Not even where the same node has it by a lesser one.
			mustAsk(t, c, up(0, with(a, 0, to(0, math.MinInt64, 0)).Grants...), 0, 0, nonce, c.Grant, false)
		}
	}
}

// P15.2: now is a time, and that behind Boot by a Grant; at 0 nothing can be so.
func TestAskNows(t *testing.T) {
	for _, c := range plans() {
		a := grant.New(c, 0)
		for _, now := range []int64{c.Grant, c.Grant + 1, 1 << 40, last - 1, last} {
			mustAsk(t, c, a, 0, 0, 0, now, true)
		}
		for _, now := range []int64{math.MinInt64, math.MinInt64 + 1, -last, -c.Grant, -1, 0, 1, c.Grant - 1, last + 1, math.MaxInt64 - 1, math.MaxInt64} {
			mustAsk(t, c, a, 0, 0, 0, now, false)
		}
	}
}

// P15.2: a Boot that is no time, or one that no time comes a Grant behind, lets nothing be granted.
func TestAskBoots(t *testing.T) {
	for _, c := range plans() {
		for _, boot := range []int64{math.MinInt64, math.MinInt64 + c.Grant, -last, -c.Grant, -1, last - c.Grant + 1, last - 1, last, last + 1, math.MaxInt64 - c.Grant, math.MaxInt64} {
			for _, now := range somewhen {
				mustAsk(t, c, grant.New(c, boot), 0, 0, 1, now, false)
			}
			mustAsk(t, c, grant.New(c, boot), 0, 0, 1, c.Grant, false)
		}
	}
}

// P15.2: up one too short, just long enough, and longer, since several times.
func TestAskUpLongEnough(t *testing.T) {
	for _, c := range plans() {
		for _, boot := range []int64{0, 1, 5, 1 << 32, 1 << 40, last - c.Grant - 1} {
			a := grant.New(c, boot)
			mustAsk(t, c, a, 0, 0, 1, boot-1, false)
			mustAsk(t, c, a, 0, 0, 1, boot, false)
			mustAsk(t, c, a, 0, 0, 1, boot+c.Grant-1, false)
			mustAsk(t, c, a, 0, 0, 1, boot+c.Grant, true)
			mustAsk(t, c, a, 0, 0, 1, boot+c.Grant+1, true)
		}
		mustAsk(t, c, grant.New(c, last-c.Grant), 0, 0, 1, last, true)
	}
}

// P15.2: who is not up long enough grants nothing again, either, whoever has it.
func TestAskAgainAheadOfTime(t *testing.T) {
	c := plan()
	for _, g := range []api.Grant{none(), to(1, 0, 0), to(1, 0, 30000), to(2, 1, 0), to(-5, 9, 9)} {
		a := up(25000, g, none())
		mustAsk(t, c, a, 0, 1, 5, 44999, false)
		mustAsk(t, c, a, 0, 1, 5, 45000, true)
	}
}

// P15.2: so it is tick by tick, by clocks at the drift's edges: nothing is granted at the last tick at which drift.Free holds it, and at the next one it is.
func TestAskTickByTick(t *testing.T) {
	for _, c := range []api.Config{plan(), drifting(0), drifting(1), drifting(api.MaxRho)} {
		for _, told := range []int{math.MinInt, 1000, math.MaxInt} {
			gain := drift.Gain(c, told)
			a := grant.New(c, 3)
			now := int64(3)
			for !drift.Free(c, 3, now+gain) {
				now += gain
				mustAsk(t, c, a, 0, 1, 1, now, false)
			}
			mustAsk(t, c, a, 0, 1, 1, now, false)
			a = mustAsk(t, c, a, 0, 1, 1, now+gain, true)
			since := now + gain
			now = since
			for !drift.Free(c, since, now+gain) {
				now += gain
				mustAsk(t, c, a, 0, 2, 1, now, false)
				mustHold(t, c, a, 0, now, 1)
			}
			mustAsk(t, c, a, 0, 2, 1, now, false)
			mustAsk(t, c, a, 0, 2, 1, now+gain, true)
			mustHold(t, c, a, 0, now+gain, -1)
		}
	}
}

// P15.2: a slot that is granted to no one can be had at once, whatever else its grant tells.
func TestAskForFreeSlots(t *testing.T) {
	c := plan()
	for _, node := range []int{-1, -2, -3, -1 << 32, math.MinInt} {
		for _, nonce := range []int64{math.MinInt64, -1, 0, 1, 7, math.MaxInt64} {
			for _, since := range somewhen {
				a := up(0, to(0, 5, 50000), to(node, nonce, since))
				for asks := range 3 {
					mustAsk(t, c, a, 1, asks, 1, 50000, true)
				}
				mustAsk(t, c, a, 0, 1, 1, 50000, false)
			}
		}
	}
}

// P15.2: the same node has it again at once by a greater number, and by the same one, or a lesser one, only once it is free.
func TestAskAgain(t *testing.T) {
	for _, c := range plans() {
		since := c.Grant + 3
		for _, had := range []int64{0, 1, 2, 1 << 32, 1<<32 + 1, math.MaxInt64} {
			for _, asked := range []int64{0, 1, 2, 1 << 32, 1<<32 + 1, math.MaxInt64} {
				a := with(grant.New(c, 0), c.Slots-1, to(c.Nodes-1, had, since))
				for _, now := range []int64{since, since + 1, since + c.Grant - 1} {
					mustAsk(t, c, a, c.Slots-1, c.Nodes-1, asked, now, asked > had)
				}
				mustAsk(t, c, a, c.Slots-1, c.Nodes-1, asked, since+c.Grant, true)
			}
		}
	}
}

// P15.2: of numbers that no Ask took, made by hand, the lesser is the lesser.
func TestAskAgainBehindOddNumbers(t *testing.T) {
	c := plan()
	for _, had := range []int64{math.MinInt64, -1 << 32, -2, -1} {
		mustAsk(t, c, up(0, to(1, had, 30000), none()), 0, 1, 0, 30000, true)
		mustAsk(t, c, up(0, to(1, had, 30000), none()), 0, 2, 0, 30000, false)
	}
}

// P15.2: another node has it only once it is free, by whatever number; so it is behind one that the plan has not.
func TestAskForAnothersSlot(t *testing.T) {
	for _, c := range []api.Config{plan(), sized(9, 9), drifting(0), drifting(api.MaxRho)} {
		since := c.Grant
		for _, has := range []int{1, 2, c.Nodes, 77, math.MaxInt} {
			a := with(grant.New(c, 0), 1, to(has, 5, since))
			for _, nonce := range []int64{0, 4, 5, 6, math.MaxInt64} {
				for _, now := range []int64{since, since + 1, since + c.Grant - 1} {
					mustAsk(t, c, a, 1, 0, nonce, now, false)
				}
				mustAsk(t, c, a, 1, 0, nonce, since+c.Grant, true)
				mustAsk(t, c, a, 1, 0, nonce, since+c.Grant+1, true)
			}
		}
	}
}

// P15.2: a grant since a number that is no time, or since one to come, is not free by the clock.
func TestAskBehindOddTimes(t *testing.T) {
	c := plan()
	for _, since := range []int64{math.MinInt64, -last, -20000, -1, 60001, 80001, last, last + 1, math.MaxInt64} {
		a := up(0, none(), to(1, 1, since))
		for _, now := range []int64{60000, 80000} {
			mustAsk(t, c, a, 1, 2, 9, now, false)
			mustAsk(t, c, a, 1, 1, 1, now, false)
			mustAsk(t, c, a, 1, 1, 2, now, true)
		}
	}
}

// P15.2: a slot that is asked for hangs on no other one.
func TestAskForEachSlot(t *testing.T) {
	c := sized(9, 9)
	a := grant.New(c, 0)
	for slot := range 9 {
		a = mustAsk(t, c, a, slot, 8-slot, int64(slot), 20000+int64(slot), true)
	}
	for slot := range 9 {
		mustAsk(t, c, a, slot, slot, 9, 30000, slot == 4)
		mustHold(t, c, a, slot, 30000, 8-slot)
	}
	// One node may have them all.
	a = grant.New(c, 0)
	for slot := range 9 {
		a = mustAsk(t, c, a, slot, 3, 1, 20000, true)
	}
}

// P15.2: just one of what may not be is enough to refuse what would be granted.
func TestAskRefusesEachAlone(t *testing.T) {
	c := plan()
	a := up(0, to(1, 1, 30000), none())
	mustAsk(t, c, a, 0, 1, 2, 30000, true)
	mustAsk(t, c, a, -1, 1, 2, 30000, false)
	mustAsk(t, c, a, 2, 1, 2, 30000, false)
	mustAsk(t, c, a, 0, -1, 2, 30000, false)
	mustAsk(t, c, a, 0, 3, 2, 30000, false)
	mustAsk(t, c, a, 0, 0, 2, 30000, false)
	mustAsk(t, c, a, 0, 1, -1, 30000, false)
	mustAsk(t, c, a, 0, 1, 1, 30000, false)
	mustAsk(t, c, a, 0, 1, 2, 19999, false)
	mustAsk(t, c, a, 0, 1, 2, -1, false)
	mustAsk(t, c, up(10001, a.Grants...), 0, 1, 2, 30000, false)
	mustAsk(t, c, up(0, a.Grants[:1]...), 0, 1, 2, 30000, false)
	mustAsk(t, c, up(0, append(nones(1), a.Grants...)...), 1, 1, 2, 30000, false)
	mustAsk(t, varied(func(c *api.Config) { c.Pass = -1 }), a, 0, 1, 2, 30000, false)
}
