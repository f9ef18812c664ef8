package grant_test

import (
	"math"
	"slices"
	"testing"

	"shipwright/api"
	"shipwright/drift"
	"shipwright/grant"
)

// last is the greatest of all times.
const last = int64(1) << 62

// ends are numbers at the ends of their type, or near those that mean something: none of them is one of 0 to 9.
var ends = []int{math.MinInt, math.MinInt + 1, -1 << 33, -1<<32 + 1, -1 << 32, -1 << 31, -256, -10, -9, -3, -2, -1, 10, 11, 256, 257, 1 << 31, 1 << 32, 1<<32 + 1, 1 << 33, math.MaxInt - 1, math.MaxInt}

// plan is the chapter's, with what it leaves open: two slots of three nodes.
func plan() api.Config {
	return api.Config{
		Nodes: 3, Slots: 2, Rho: 100, Hold: 10000, Grant: 20000, Guard: 1100, Work: 1000,
		Stages: []int{0, 0, 1}, Needs: []int{2, 1}, Soak: 2, Pass: 500,
	}
}

// varied is plan, but for one thing.
func varied(change func(c *api.Config)) api.Config {
	c := plan()
	change(&c)
	return c
}

// sized is a plan of so many nodes and slots.
func sized(nodes, slots int) api.Config {
	return varied(func(c *api.Config) {
		c.Nodes, c.Slots = nodes, slots
		c.Stages, c.Needs = make([]int, nodes), []int{0}
	})
}

// drifting is a plan with such a Rho, and the least Grant and Guard that it lets be.
func drifting(rho int) api.Config {
	return varied(func(c *api.Config) {
		c.Rho, c.Guard = rho, int64(1000+rho)
		c.Grant = c.Hold*int64(1000+rho)/int64(1000-rho) + 1
	})
}

// plans are such as may be: of one node and of nine, of one slot and of as many as nodes, by clocks at the drift's edges, and of the least and the greatest Grant.
func plans() []api.Config {
	return []api.Config{
		plan(), sized(1, 1), sized(2, 1), sized(9, 1), sized(9, 4), sized(9, 9),
		drifting(0), drifting(api.MaxRho),
		varied(func(c *api.Config) { c.Rho, c.Hold, c.Grant = 0, 1, 2 }),
		varied(func(c *api.Config) { c.Rho, c.Hold, c.Grant = 0, api.MaxTime-1, api.MaxTime }),
	}
}

// What the other tests go by: these plans may be.
func TestPlansMayBe(t *testing.T) {
	for _, c := range plans() {
		if err := drift.Check(c); err != api.OK {
			t.Errorf("%+v: %v", c, err)
		}
	}
}

// to is a grant to a node.
func to(node int, nonce, since int64) api.Grant {
	return api.Grant{Node: node, Nonce: nonce, Since: since}
}

// none is a grant to no one.
func none() api.Grant {
	return to(-1, 0, 0)
}

// nones are so many grants to no one.
func nones(many int) []api.Grant {
	return slices.Repeat([]api.Grant{none()}, many)
}

// up is a node that is up since a time, with such grants.
func up(boot int64, grants ...api.Grant) api.Acceptor {
	return api.Acceptor{Boot: boot, Grants: grants}
}

// with is a node, in memory of its own, with one slot granted otherwise.
func with(a api.Acceptor, slot int, g api.Grant) api.Acceptor {
	b := up(a.Boot, slices.Clone(a.Grants)...)
	b.Grants[slot] = g
	return b
}

// same tells whether two nodes granted the same, since the same time.
func same(a, b api.Acceptor) bool {
	return a.Boot == b.Boot && slices.Equal(a.Grants, b.Grants)
}

// mustBe tells of a node that is another one than it should be.
func mustBe(t *testing.T, why string, got, want api.Acceptor) {
	t.Helper()
	if !same(got, want) {
		t.Errorf("%s: %+v instead of %+v", why, got, want)
	}
}

// mustAsk tells of an Ask that answers something else, and of a node that is not granted, or left as it was, by it.
func mustAsk(t *testing.T, c api.Config, a api.Acceptor, slot, node int, nonce, now int64, want bool) api.Acceptor {
	t.Helper()
	was, behind := up(a.Boot, slices.Clone(a.Grants)...), a
	if want {
		behind = with(a, slot, to(node, nonce, now))
	}
	got, is := grant.Ask(c, a, slot, node, nonce, now)
	if is != want || !same(got, behind) || !same(a, was) {
		t.Errorf("Ask(%d, %d, %d, at %d) of %+v: %+v, %v, want %v", slot, node, nonce, now, was, got, is, want)
	}
	return got
}

// mustFree tells of a Free that frees, or leaves as it was, what it should not.
func mustFree(t *testing.T, c api.Config, a api.Acceptor, slot, node int, nonce int64, want bool) api.Acceptor {
	t.Helper()
	was, behind := up(a.Boot, slices.Clone(a.Grants)...), a
	if want {
		behind = with(a, slot, none())
	}
	got := grant.Free(c, a, slot, node, nonce)
	if !same(got, behind) || !same(a, was) {
		t.Errorf("Free(%d, %d, %d) of %+v: %+v, want %v", slot, node, nonce, was, got, want)
	}
	return got
}

// mustHold tells of a Holder that is another one.
func mustHold(t *testing.T, c api.Config, a api.Acceptor, slot int, now int64, want int) {
	t.Helper()
	was := up(a.Boot, slices.Clone(a.Grants)...)
	if got := grant.Holder(c, a, slot, now); got != want || !same(a, was) {
		t.Errorf("Holder(%d, at %d) of %+v: %d instead of %d", slot, now, was, got, want)
	}
}

// draw is the next one of numbers that look like chance.
func draw(k *uint64, below int) int {
	*k = *k*6364136223846793005 + 1442695040888963407
	return int(*k >> 33 % uint64(below))
}

// P15.1 to P15.3: the chapter's examples.
func TestExamples(t *testing.T) {
	c := plan()
	a := grant.New(c, 0)
	mustBe(t, "New", a, up(0, none(), none()))
	mustAsk(t, c, a, 0, 1, 1, 19999, false)
	a = mustAsk(t, c, a, 0, 1, 1, 20000, true)
	mustAsk(t, c, a, 0, 2, 1, 30000, false)
	mustAsk(t, c, a, 0, 2, 1, 40000, true)
}
