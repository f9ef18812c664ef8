package lease_test

import (
	"math"
	"testing"

	"shipwright/api"
	"shipwright/drift"
)

// P16.2: it fits while more than Guard and Work together is left, and just as much does not, asked for at several times.
func TestFitsInTime(t *testing.T) {
	for _, c := range edges() {
		for _, asked := range []int64{0, 1, 5, 1 << 32, 1 << 40, last - c.Hold} {
			l, over := byMajority(c, asked), asked+c.Hold-c.Guard-c.Work
			mustTell(t, c, l, asked-1, false, true, false)
			mustTell(t, c, l, asked, true, false, true)
			mustTell(t, c, l, over-1, true, false, true)
			mustTell(t, c, l, over, true, false, false)
			mustTell(t, c, l, over+1, true, false, false)
		}
	}
}

// P16.2: by clocks at the drift's edges, tick by tick, it fits up to the last tick at which more is left.
func TestFitsTickByTick(t *testing.T) {
	for _, c := range edges() {
		for _, told := range []int{math.MinInt, 1000, math.MaxInt} {
			gain, ticks := drift.Gain(c, told), int64(0)
			l := byMajority(c, 9)
			for ; ticks*gain < c.Hold-c.Guard-c.Work; ticks++ {
				mustTell(t, c, l, 9+ticks*gain, true, false, true)
			}
			if ticks < 2 {
				t.Errorf("Rho %d, told %d: it fits at %d ticks", c.Rho, told, ticks)
			}
			for more := range int64(20) {
				now := 9 + (ticks+more)*gain
				mustTell(t, c, l, now, drift.Holds(c, 9, now), drift.Late(c, 9, now), false)
			}
		}
	}
}

// P16.2: Guard and Work count together, whichever of both is the greater one.
func TestFitsByGuardAndWork(t *testing.T) {
	for _, x := range []struct {
		guard, work int64
		fits        bool // as soon as it is asked for
	}{
		{1100, 1, true}, {1100, 8898, true}, {1100, 8899, true}, {1100, 8900, false}, {1100, 8901, false},
		{5000, 4999, true}, {5000, 5000, false}, {5000, 5001, false}, {9998, 1, true}, {9999, 1, false},
		{1100, 9999, false}, {1100, 10000, false}, {1100, api.MaxTime, false},
	} {
		c := varied(func(c *api.Config) { c.Guard, c.Work = x.guard, x.work })
		for _, asked := range []int64{0, 5, 1 << 40, last} {
			mustTell(t, c, byMajority(c, asked), asked, true, false, x.fits)
		}
	}
	for _, guard := range []int64{10000, 10001, api.MaxTime} {
		for _, work := range []int64{1, 10000, api.MaxTime} {
			c := varied(func(c *api.Config) { c.Guard, c.Work = guard, work })
			mustTell(t, c, byMajority(c, 5), 5, true, true, false)
		}
	}
}

// P16.2: of the greatest Hold, just what Guard and Work leave.
func TestFitsOfTheGreatestHold(t *testing.T) {
	c := varied(func(c *api.Config) {
		c.Rho, c.Hold, c.Grant, c.Guard, c.Work = 0, api.MaxTime-1, api.MaxTime, 1000, api.MaxTime-1002
	})
	mustTell(t, c, byMajority(c, 5), 5, true, false, true)
	mustTell(t, c, byMajority(c, 5), 6, true, false, false)
	c.Work++
	mustTell(t, c, byMajority(c, 5), 5, true, false, false)
}
