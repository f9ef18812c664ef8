package grant_test

import (
	"math"
	"testing"

	"shipwright/api"
	"shipwright/drift"
	"shipwright/grant"
)

// somewhen are times, and numbers that are none.
var somewhen = []int64{math.MinInt64, -last, -20000, -1, 0, 1, 5, 1 << 31, 1 << 32, last - 1, last, last + 1, math.MaxInt64}

// P15.1: each slot of a plan that may be is granted to no one, whatever the time, and that is kept.
func TestNew(t *testing.T) {
	for _, c := range plans() {
		for _, now := range somewhen {
			mustBe(t, "New", grant.New(c, now), up(now, nones(c.Slots)...))
		}
	}
}

// P15.1: there are as many grants as slots, not as nodes.
func TestNewOfEachSize(t *testing.T) {
	for nodes := 1; nodes <= api.MaxNodes; nodes++ {
		for slots := 1; slots <= nodes; slots++ {
			a := grant.New(sized(nodes, slots), 7)
			mustBe(t, "New", a, up(7, nones(slots)...))
			for slot := range slots {
				mustHold(t, sized(nodes, slots), a, slot, 7, -1)
			}
		}
	}
}

// P15.1: of a plan that may not be, for whatever reason, it is an empty one, that does not even tell the time.
func TestNewOfRefusedPlans(t *testing.T) {
	for why, c := range refused() {
		if err := drift.Check(c); err != api.ErrConfig {
			t.Errorf("%s: %v", why, err)
		}
		for _, now := range somewhen {
			mustBe(t, why, grant.New(c, now), api.Acceptor{})
		}
	}
}
