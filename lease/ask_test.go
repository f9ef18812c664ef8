package lease_test

import (
	"math"
	"testing"

	"shipwright/api"
	"shipwright/lease"
)

// numbers are such as a nonce or a time may be, and such as none is: an Ask takes them all.
var numbers = []int64{math.MinInt64, math.MinInt64 + 1, -last, -1 << 32, -2, -1, 0, 1, 2, 7, 1 << 31, 1 << 32, 1 << 40, last - 1, last, last + 1, math.MaxInt64 - 1, math.MaxInt64}

// P16.1: a lease is of what it is asked by, whatever that is, and nobody granted it.
func TestAsk(t *testing.T) {
	for _, slot := range append([]int{0, 1, 2, 8, 9}, ends...) {
		for _, nonce := range numbers {
			for _, now := range numbers {
				mustBe(t, "Ask", lease.Ask(slot, nonce, now), api.Lease{Slot: slot, Nonce: nonce, Asked: now})
			}
		}
	}
}

// P16.1, P16.2: what is asked for is not held before it is granted, be it by a plan of one node.
func TestAskIsNotGranted(t *testing.T) {
	for _, c := range plans() {
		l := lease.Ask(0, 7, 5)
		if len(l.From) != 0 {
			t.Errorf("%+v is granted", l)
		}
		for _, now := range []int64{4, 5, 6, 4 + c.Hold, 5 + c.Hold} {
			mustNotHold(t, c, l, now)
		}
	}
}

// P16.1: a lease that is asked for anew is another one: nothing that was granted goes over to it.
func TestAskAnew(t *testing.T) {
	c := plan()
	l := mustGrant(t, c, lease.Ask(0, 7, 5), 1, 0, 7, true)
	mustGrant(t, c, l, 2, 0, 7, true)
	next := lease.Ask(0, 8, 500)
	mustBe(t, "Ask", next, api.Lease{Slot: 0, Nonce: 8, Asked: 500})
	mustGrant(t, c, next, 1, 0, 7, false)
	mustGrant(t, c, next, 1, 0, 8, true)
}
