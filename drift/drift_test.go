package drift_test

import (
	"math"
	"math/big"
	"slices"
	"testing"

	"shipwright/api"
	"shipwright/drift"
)

// last is the greatest of all times.
const last = int64(1) << 62

// plan is one that may be: the chapter's, with what it leaves open.
func plan() api.Config {
	return api.Config{
		Nodes: 3, Slots: 1, Rho: 100, Hold: 10000, Grant: 20000, Guard: 1100, Work: 1000,
		Stages: []int{0, 0, 1}, Needs: []int{2, 1}, Soak: 2, Pass: 500,
	}
}

// changed is plan, but for one thing.
func changed(change func(c *api.Config)) api.Config {
	c := plan()
	change(&c)
	return c
}

// alike is a plan of so many nodes, of one stage.
func alike(nodes int) api.Config {
	return changed(func(c *api.Config) {
		c.Nodes = nodes
		c.Stages = make([]int, max(nodes, 0))
		c.Needs = []int{0}
	})
}

// drifting is a plan with such a Rho, and the least Grant and Guard that it lets be.
func drifting(rho int, hold int64) api.Config {
	return changed(func(c *api.Config) {
		c.Rho = rho
		c.Hold = hold
		c.Grant = hold*int64(1000+rho)/int64(1000-rho) + 1
		c.Guard = int64(1000 + rho)
	})
}

// mayBe fails the test unless a plan may be.
func mayBe(t *testing.T, c api.Config) {
	t.Helper()
	if err := drift.Check(c); err != api.OK {
		t.Fatalf("%v: %v", c, err)
	}
}

// draw is the next one of numbers that look like chance.
func draw(k *uint64, below int) int {
	*k = *k*6364136223846793005 + 1442695040888963407
	return int(*k >> 33 % uint64(below))
}

// P9.1 to P9.3: the chapter's examples.
func TestExamples(t *testing.T) {
	c := plan()
	mayBe(t, c)
	if m, fast, slow := drift.Majority(c), drift.Gain(c, 2000), drift.Gain(c, -5); m != 2 || fast != 1100 || slow != 900 {
		t.Error(m, fast, slow)
	}
	if !drift.Holds(c, 5, 10004) || !drift.Late(c, 5, 8905) || !drift.Free(c, 5, 20005) {
		t.Error(drift.Holds(c, 5, 10004), drift.Late(c, 5, 8905), drift.Free(c, 5, 20005))
	}
}

// P9.2: the majority of each number of nodes.
func TestMajority(t *testing.T) {
	for i, want := range []int{1, 2, 2, 3, 3, 4, 4, 5, 5} {
		c := alike(i + 1)
		mayBe(t, c)
		if got := drift.Majority(c); got != want {
			t.Errorf("%d nodes: %d", i+1, got)
		}
	}
}

// P9.2: how far a clock goes hangs on what it is told only within the drift.
func TestGain(t *testing.T) {
	for _, rho := range []int{0, 1, 100, 499, 500} {
		c := drifting(rho, 10000)
		mayBe(t, c)
		least, most := 1000-rho, 1000+rho
		for told, want := range map[int]int{
			math.MinInt: least, math.MinInt32: least, -1000: least, -1: least, 0: least, 1: least,
			math.MaxInt: most, math.MaxInt32: most, 1 << 32: most, 2000: most,
			least - 1: least, most + 1: most, 1000: 1000,
		} {
			if got := drift.Gain(c, told); got != int64(want) {
				t.Errorf("Rho %d, told %d: %d", rho, told, got)
			}
		}
		for told := least; told <= most; told++ {
			if got := drift.Gain(c, told); got != int64(told) {
				t.Errorf("Rho %d, told %d: %d", rho, told, got)
			}
		}
	}
}

// P9.3: the edges that the chapter names, from several times on.
func TestTimes(t *testing.T) {
	c := plan()
	for _, from := range []int64{0, 1, 5, 1 << 40, last - 20001} {
		for _, x := range []struct {
			past              int64
			holds, late, free bool
		}{
			{-1, false, true, false}, // ahead of it
			{0, true, false, false},
			{1, true, false, false},
			{8899, true, false, false}, // one more than Guard is left
			{8900, true, true, false},  // just Guard
			{8901, true, true, false},  // one less
			{9999, true, true, false},
			{10000, false, true, false}, // just Hold
			{10001, false, true, false},
			{19999, false, true, false},
			{20000, false, true, true}, // just Grant
			{20001, false, true, true},
		} {
			now := from + x.past
			holds, late, free := drift.Holds(c, from, now), drift.Late(c, from, now), drift.Free(c, from, now)
			if holds != x.holds || late != x.late || free != x.free {
				t.Errorf("%d, %d behind it: %v %v %v", from, x.past, holds, late, free)
			}
		}
	}
}

// P9.3: a lease that is late from its asking on, as Guard is as much as Hold, or more; one that is not, as it is less.
func TestLateAtOnce(t *testing.T) {
	for guard, want := range map[int64]bool{9998: false, 9999: false, 10000: true, 10001: true, api.MaxTime: true} {
		c := changed(func(c *api.Config) { c.Guard = guard })
		mayBe(t, c)
		if !drift.Holds(c, 7, 7) || drift.Late(c, 7, 7) != want {
			t.Errorf("Guard %d: %v %v", guard, drift.Holds(c, 7, 7), drift.Late(c, 7, 7))
		}
	}
}

// someTimes are times, and numbers that are none.
func someTimes() []int64 {
	return []int64{
		math.MinInt64, math.MinInt64 + 1, -last - 1, -last, -20000, -10000, -2, -1,
		0, 1, 8899, 8900, 9999, 10000, 19999, 20000, 20001, 1 << 31, 1 << 32,
		last - 20000, last - 19999, last - 10000, last - 9999, last - 8900, last - 8899, last - 1, last,
		last + 1, last + 10000, last + 20000, math.MaxInt64 - 1, math.MaxInt64,
	}
}

// isTime tells whether a number is 0 to 2^62.
func isTime(n int64) bool {
	return n >= 0 && n <= last
}

// toldTimes is what the chapter's words say of two times: whether a lease holds, is late, and is free.
func toldTimes(c api.Config, from, now int64) (holds, late, free bool) {
	if !isTime(from) || !isTime(now) {
		return false, true, false
	}
	past := new(big.Int).Sub(big.NewInt(now), big.NewInt(from))
	left := new(big.Int).Sub(big.NewInt(c.Hold), past)
	begun := past.Sign() >= 0
	holds = begun && past.Cmp(big.NewInt(c.Hold)) < 0
	late = !holds || left.Cmp(big.NewInt(c.Guard)) <= 0
	free = begun && past.Cmp(big.NewInt(c.Grant)) >= 0
	return holds, late, free
}

// somePlans are plans that may be, of small and of great times.
func somePlans() []api.Config {
	return []api.Config{
		plan(),
		drifting(0, 1),
		drifting(500, 1),
		drifting(500, 10000),
		changed(func(c *api.Config) { c.Rho, c.Hold, c.Grant = 0, api.MaxTime-1, api.MaxTime }),
		changed(func(c *api.Config) { c.Guard = api.MaxTime }),
	}
}

// asTold fails the test unless what is answered of two times is what the chapter's words say.
func asTold(t *testing.T, c api.Config, from, now int64) {
	t.Helper()
	holds, late, free := drift.Holds(c, from, now), drift.Late(c, from, now), drift.Free(c, from, now)
	wantHolds, wantLate, wantFree := toldTimes(c, from, now)
	if holds != wantHolds || late != wantLate || free != wantFree {
		t.Errorf("%v: %d, %d: %v %v %v", c, from, now, holds, late, free)
	}
}

// P9.3: each two of many numbers, held against the chapter's words, also those that are no times.
func TestAllTimes(t *testing.T) {
	for _, c := range somePlans() {
		mayBe(t, c)
		for _, from := range someTimes() {
			for _, now := range someTimes() {
				asTold(t, c, from, now)
			}
		}
	}
}

// P9.3: times around those at which something changes, held against the chapter's words.
func TestNearTimes(t *testing.T) {
	for _, c := range somePlans() {
		for _, edge := range []int64{0, c.Hold - c.Guard, c.Hold, c.Grant} {
			for from := range int64(4) {
				for now := edge - 3; now <= edge+6; now++ {
					asTold(t, c, from, now)
				}
			}
		}
	}
}

// P9.1 to P9.3: of a plan that may not be, for whatever reason, all answers are 0, or false.
func TestRefusedPlans(t *testing.T) {
	for _, x := range refused() {
		if got := drift.Majority(x.plan); got != 0 {
			t.Errorf("%s: a majority of %d", x.why, got)
		}
		for _, told := range []int{math.MinInt, -1, 0, 900, 1000, 1100, math.MaxInt} {
			if got := drift.Gain(x.plan, told); got != 0 {
				t.Errorf("%s: told %d: %d", x.why, told, got)
			}
		}
		for _, from := range someTimes() {
			for _, now := range someTimes() {
				if drift.Holds(x.plan, from, now) || drift.Late(x.plan, from, now) || drift.Free(x.plan, from, now) {
					t.Errorf("%s: %d, %d: %v %v %v", x.why, from, now, drift.Holds(x.plan, from, now), drift.Late(x.plan, from, now), drift.Free(x.plan, from, now))
				}
			}
		}
	}
}

// askAll calls all functions.
func askAll(c api.Config) (api.Errno, int, int64, bool, bool, bool) {
	return drift.Check(c), drift.Majority(c), drift.Gain(c, 1000), drift.Holds(c, 5, 6), drift.Late(c, 5, 9000), drift.Free(c, 5, 20005)
}

// R4: a plan's rows are not changed, nor what lies in their spare room.
func TestRowsStay(t *testing.T) {
	for _, rows := range [][2][]int{
		{{0, 0, 1, 3, -1, 7}, {2, 1, 9, -9}}, // one that may be
		{{1, 0, 1, 3, -1, 7}, {2, 1, 9, -9}}, // one that needs too many
		{{3, 0, 1, 3, -1, 7}, {2, 1, 9, -9}}, // one of too few needs
	} {
		stages, needs := slices.Clone(rows[0]), slices.Clone(rows[1])
		askAll(changed(func(c *api.Config) { c.Stages, c.Needs = stages[:3], needs[:2] }))
		if !slices.Equal(stages, rows[0]) || !slices.Equal(needs, rows[1]) {
			t.Errorf("%v: %v %v", rows, stages, needs)
		}
	}
}

// R4, R5: rows are not kept: what is answered follows them when they are changed, and comes back with them.
func TestRowsAreNotKept(t *testing.T) {
	c := plan()
	mayBe(t, c)
	for range 3 {
		for _, change := range []struct {
			row    []int
			at, to int
		}{{c.Stages, 2, 2}, {c.Stages, 0, -1}, {c.Stages, 1, 1}, {c.Needs, 1, 2}, {c.Needs, 0, -1}} {
			was := change.row[change.at]
			change.row[change.at] = change.to
			if err, majority, gain, holds, late, free := askAll(c); err != api.ErrConfig || majority != 0 || gain != 0 || holds || late || free {
				t.Errorf("%v: %v %d %d %v %v %v", c, err, majority, gain, holds, late, free)
			}
			change.row[change.at] = was
			if err, majority, gain, holds, late, free := askAll(c); err != api.OK || majority != 2 || gain != 1000 || !holds || !late || !free {
				t.Errorf("%v: %v %d %d %v %v %v", c, err, majority, gain, holds, late, free)
			}
		}
	}
}
