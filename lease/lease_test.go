package lease_test

import (
	"math"
	"slices"
	"testing"

	"shipwright/api"
	"shipwright/drift"
	"shipwright/lease"
)

// last is the greatest of all times.
const last = int64(1) << 62

// ends are numbers at the ends of their type, or near those that mean something: none of them is one of 0 to 9.
var ends = []int{math.MinInt, math.MinInt + 1, -1 << 33, -1<<32 + 1, -1 << 32, -1 << 31, -256, -10, -9, -3, -2, -1, 10, 11, 256, 257, 1 << 31, 1 << 32, 1<<32 + 1, 1 << 33, math.MaxInt - 1, math.MaxInt}

// plan is the chapter's, with what it leaves open: two slots of three nodes.
func plan() api.Config {
	return api.Config{
		Nodes: 3, Slots: 2, Rho: 100, Hold: 10000, Grant: 20000, Guard: 1100, Work: 1000,
		Stages: []int{0, 0, 1}, Needs: []int{2, 1}, Soak: 2, Pass: 500,
	}
}

// varied is plan, but for one thing.
func varied(change func(c *api.Config)) api.Config {
	c := plan()
	change(&c)
	return c
}

// sized is a plan of so many nodes and slots.
func sized(nodes, slots int) api.Config {
	return varied(func(c *api.Config) {
		c.Nodes, c.Slots = nodes, slots
		c.Stages, c.Needs = make([]int, nodes), []int{0}
	})
}

// drifting is a plan with such a Rho, and the least Grant and Guard that it lets be.
func drifting(rho int) api.Config {
	return varied(func(c *api.Config) {
		c.Rho, c.Guard = rho, int64(1000+rho)
		c.Grant = c.Hold*int64(1000+rho)/int64(1000-rho) + 1
	})
}

// plans are such as may be: of one node and of nine, of one slot and of as many as nodes, by clocks at the drift's edges, of the least and the greatest Hold, and such in which nothing fits, by a Guard, by a Work, and by both together.
func plans() []api.Config {
	return []api.Config{
		plan(), sized(1, 1), sized(2, 1), sized(4, 2), sized(9, 1), sized(9, 9),
		drifting(0), drifting(api.MaxRho),
		varied(func(c *api.Config) { c.Rho, c.Hold, c.Grant = 0, 1, 2 }),
		varied(func(c *api.Config) { c.Rho, c.Hold, c.Grant = 0, api.MaxTime-1, api.MaxTime }),
		varied(func(c *api.Config) { c.Guard = api.MaxTime }),
		varied(func(c *api.Config) { c.Guard, c.Work = api.MaxTime, api.MaxTime }),
		varied(func(c *api.Config) { c.Work = api.MaxTime }),
		varied(func(c *api.Config) { c.Guard, c.Work = 6000, 4000 }),
		varied(func(c *api.Config) { c.Guard, c.Work = 6000, 3999 }),
	}
}

// edges are plans by clocks that go right, and that go wrong as far as can be, and the chapter's.
func edges() []api.Config {
	return []api.Config{plan(), drifting(0), drifting(1), drifting(api.MaxRho)}
}

// What the other tests go by: these plans may be.
func TestPlansMayBe(t *testing.T) {
	for _, c := range append(plans(), edges()...) {
		if err := drift.Check(c); err != api.OK {
			t.Errorf("%+v: %v", c, err)
		}
	}
}

// from is a lease of the slot 1, asked for by the number 7 at 5, that so many granted.
func from(nodes ...int) api.Lease {
	return since(5, nodes...)
}

// since is a lease of the slot 1, asked for by the number 7 at a time, that so many granted.
func since(asked int64, nodes ...int) api.Lease {
	return api.Lease{Slot: 1, Nonce: 7, Asked: asked, From: nodes}
}

// upTo are so many nodes, from 0 on.
func upTo(many int) []int {
	l := make([]int, many)
	for i := range l {
		l[i] = i
	}
	return l
}

// byMajority is a lease that just a majority of a plan's nodes granted, asked for at a time.
func byMajority(c api.Config, asked int64) api.Lease {
	return since(asked, upTo(c.Nodes/2+1)...)
}

// own is a lease in memory of its own.
func own(l api.Lease) api.Lease {
	l.From = slices.Clone(l.From)
	return l
}

// same tells whether two leases are the same one, granted by the same ones in the same order.
func same(a, b api.Lease) bool {
	return a.Slot == b.Slot && a.Nonce == b.Nonce && a.Asked == b.Asked && slices.Equal(a.From, b.From)
}

// mustBe tells of a lease that is another one than it should be.
func mustBe(t *testing.T, why string, got, want api.Lease) {
	t.Helper()
	if !same(got, want) {
		t.Errorf("%s: %+v instead of %+v", why, got, want)
	}
}

// mustGrant tells of a Grant that does not let a node stand behind those who were there, or not leave a lease as it was.
func mustGrant(t *testing.T, c api.Config, l api.Lease, node, slot int, nonce int64, want bool) api.Lease {
	t.Helper()
	was, behind := own(l), own(l)
	if want {
		behind.From = append(behind.From, node)
	}
	got := lease.Grant(c, l, node, slot, nonce)
	if !same(got, behind) || !same(l, was) {
		t.Errorf("Grant(%d, %d, %d) of %+v: %+v, want %v", node, slot, nonce, was, got, want)
	}
	return got
}

// mustTell tells of a lease that is held, late, or fits otherwise than it should, or that is changed by being asked so.
func mustTell(t *testing.T, c api.Config, l api.Lease, now int64, held, late, fits bool) {
	t.Helper()
	was := own(l)
	isHeld, isLate, isFit := lease.Held(c, l, now), lease.Late(c, l, now), lease.Fits(c, l, now)
	if isHeld != held || isLate != late || isFit != fits || !same(l, was) {
		t.Errorf("%+v at %d: held %v, late %v, fits %v; want %v, %v, %v, by %+v", was, now, isHeld, isLate, isFit, held, late, fits, c)
	}
}

// mustNotHold tells of a lease that is held, or fits, or is not late.
func mustNotHold(t *testing.T, c api.Config, l api.Lease, now int64) {
	t.Helper()
	mustTell(t, c, l, now, false, true, false)
}

// mustHold tells of a lease that is not held.
func mustHold(t *testing.T, c api.Config, l api.Lease, now int64) {
	t.Helper()
	if !lease.Held(c, l, now) {
		t.Errorf("%+v at %d is not held, by %+v", l, now, c)
	}
}

// draw is the next one of numbers that look like chance.
func draw(k *uint64, below int) int {
	*k = *k*6364136223846793005 + 1442695040888963407
	return int(*k >> 33 % uint64(below))
}

// P16.1, P16.2: the chapter's examples.
func TestExamples(t *testing.T) {
	c := plan()
	l := lease.Ask(0, 7, 5)
	l = mustGrant(t, c, l, 1, 0, 7, true)
	l = mustGrant(t, c, l, 2, 0, 7, true)
	mustTell(t, c, l, 10004, true, true, false)
	mustTell(t, c, l, 10005, false, true, false)
	mustTell(t, c, l, 7904, true, false, true)
	mustTell(t, c, l, 7905, true, false, false)
}
