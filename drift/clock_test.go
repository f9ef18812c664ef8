package drift_test

import (
	"math"
	"testing"

	"shipwright/api"
	"shipwright/drift"
)

// clock goes on by what it is told at each tick.
type clock struct {
	now  int64
	tell func() int
}

// tick lets it go on.
func (k *clock) tick(c api.Config) {
	k.now += drift.Gain(c, k.tell())
}

// always tells a clock the same at each tick.
func always(n int) func() int {
	return func() int { return n }
}

// turns tells a clock each of l, over and over.
func turns(l ...int) func() int {
	at := -1
	return func() int {
		at = (at + 1) % len(l)
		return l[at]
	}
}

// anything tells a clock what looks like chance.
func anything(k uint64) func() int {
	return func() int { return draw(&k, 3000) - 500 }
}

// tellers are ways to tell a clock: as slowly and as fast as can be, right, and mixed.
func tellers() []func() func() int {
	return []func() func() int{
		func() func() int { return always(math.MinInt) },
		func() func() int { return always(math.MaxInt) },
		func() func() int { return always(1000) },
		func() func() int { return turns(0, 2000) },
		func() func() int { return turns(2000, 2000, 2000, 0) },
		func() func() int { return anything(3) },
		func() func() int { return anything(4) },
	}
}

// end is how many ticks it takes until a grant is free for sure.
func end(c api.Config) int {
	return int(c.Grant)/(1000-c.Rho) + 3
}

// follow lets two clocks go on from the asking for a lease, that is granted so many ticks behind it, up to its end.
func follow(t *testing.T, c api.Config, asker, granter *clock, behind int) {
	t.Helper()
	asked, granted := asker.now, int64(-1)
	wasLate := false
	for i := range behind + end(c) {
		if i == behind {
			granted = granter.now
		}
		holds, late := drift.Holds(c, asked, asker.now), drift.Late(c, asked, asker.now)
		if holds && granted >= 0 && drift.Free(c, granted, granter.now) {
			t.Fatalf("%+v: tick %d: it holds at %d, and is free at %d", c, i, asker.now-asked, granter.now-granted)
		}
		if i > 0 && !wasLate && !holds {
			t.Fatalf("%+v: tick %d: it was not late, and holds no more at %d", c, i, asker.now-asked)
		}
		wasLate = late
		asker.tick(c)
		granter.tick(c)
	}
	if drift.Holds(c, asked, asker.now) || !drift.Free(c, granted, granter.now) {
		t.Fatalf("%+v: it has no end: %d, %d", c, asker.now-asked, granter.now-granted)
	}
}

// tightPlans are plans with the least Grant and Guard that may be.
func tightPlans() []api.Config {
	var l []api.Config
	for _, rho := range []int{0, 1, 100, 333, 500} {
		for _, hold := range []int64{1, 999, 1000, 1001, 5000, 5001, 9999, 10000, 10001, 12345} {
			l = append(l, drifting(rho, hold))
		}
	}
	return l
}

// P9.4: a lease is not free for one who granted it behind its asking while it holds, and who is not late holds it at the next tick, whatever both clocks do.
func TestTwoClocks(t *testing.T) {
	for _, c := range append(tightPlans(), plan()) {
		mayBe(t, c)
		for i, asker := range tellers() {
			for j, granter := range tellers() {
				for behind := range 4 {
					one := &clock{int64(1000 * i), asker()}
					other := &clock{int64(77 * j), granter()}
					follow(t, c, one, other, behind)
				}
			}
		}
	}
}

// P9.4: with the asker's clock as slow as can be, and the granter's as fast, a grant of just enough comes free at its end, and not while the lease holds.
func TestJustEnoughGrant(t *testing.T) {
	for _, c := range tightPlans() {
		mayBe(t, c)
		slow, fast := drift.Gain(c, math.MinInt), drift.Gain(c, math.MaxInt)
		for ticks := range int64(end(c)) {
			free, holds := drift.Free(c, 0, ticks*fast), drift.Holds(c, 0, ticks*slow)
			if free != (ticks*fast >= c.Grant) || free && holds {
				t.Errorf("%+v: behind %d ticks: %v %v", c, ticks, free, holds)
			}
		}
	}
}

// P9.4: who is not late holds a lease one tick on, at each time of it, by the fastest clock, with a Guard of just one tick.
func TestJustEnoughGuard(t *testing.T) {
	for _, rho := range []int{0, 100, 500} {
		c := drifting(rho, 5000)
		mayBe(t, c)
		fast := drift.Gain(c, math.MaxInt)
		for past := int64(0); past <= c.Hold+2; past++ {
			late, next := drift.Late(c, 9, 9+past), drift.Holds(c, 9, 9+past+fast)
			if !late && !next {
				t.Errorf("Rho %d: not late at %d, and lost at the next tick", rho, past)
			}
			// That what is left is at most Guard is told one tick ahead of its end, not much sooner.
			if want := past+fast >= c.Hold; late != want {
				t.Errorf("Rho %d: at %d: late is %v", rho, past, late)
			}
		}
	}
}
