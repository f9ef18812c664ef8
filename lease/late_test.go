package lease_test

import (
	"math"
	"testing"

	"shipwright/api"
	"shipwright/drift"
)

// P16.2: a lease is late just where drift.Late begins, and one less than that it is not, asked for at several times.
func TestLateInTime(t *testing.T) {
	for _, c := range edges() {
		for _, asked := range []int64{0, 1, 5, 1 << 32, 1 << 40, last - c.Hold} {
			l, begins := byMajority(c, asked), asked+c.Hold-c.Guard
			mustTell(t, c, l, begins-1, true, false, false)
			mustTell(t, c, l, begins, true, true, false)
			mustTell(t, c, l, begins+1, true, true, false)
			mustTell(t, c, l, asked+c.Hold-1, true, true, false)
			mustTell(t, c, l, asked+c.Hold, false, true, false)
			mustTell(t, c, l, asked-1, false, true, false)
		}
	}
}

// P16.2: by clocks at the drift's edges, tick by tick, it is late from the tick on at which drift.Late begins; who is not late at a tick holds it at the next one.
func TestLateTickByTick(t *testing.T) {
	for _, c := range edges() {
		for _, told := range []int{math.MinInt, 1000, math.MaxInt} {
			gain := drift.Gain(c, told)
			l, now := byMajority(c, 9), int64(9)
			for ; !drift.Late(c, 9, now); now += gain {
				left := c.Hold - (now - 9)
				mustTell(t, c, l, now, true, false, left > c.Guard+c.Work)
				mustHold(t, c, l, now+gain)
			}
			for range 20 {
				mustTell(t, c, l, now, drift.Holds(c, 9, now), true, false)
				now += gain
			}
		}
	}
}

// P16.2: what is not held is late from its asking on, by whomever it is not.
func TestLateOfWhatIsNotHeld(t *testing.T) {
	for _, c := range plans() {
		for _, nodes := range [][]int{nil, {-1, c.Nodes}, {c.Nodes, c.Nodes + 1, c.Nodes + 2, 77, 78, 79}, upTo(c.Nodes / 2)} {
			for _, past := range []int64{-1, 0, 1, c.Hold - c.Guard - c.Work - 1, c.Hold - c.Guard, c.Hold - 1, c.Hold, c.Hold + 1, c.Grant} {
				mustNotHold(t, c, since(5000, nodes...), 5000+past)
			}
			for _, now := range numbers {
				mustNotHold(t, c, since(5, nodes...), now)
			}
		}
	}
}

// P16.2: with a Guard of as much as Hold, or more, a lease is late as soon as it is asked for; with a lesser one it is not.
func TestLateAtOnce(t *testing.T) {
	for guard, want := range map[int64]bool{9998: false, 9999: false, 10000: true, 10001: true, api.MaxTime: true} {
		c := varied(func(c *api.Config) { c.Guard = guard })
		mustTell(t, c, byMajority(c, 7), 7, true, want, false)
	}
}
