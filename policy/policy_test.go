package policy_test

import (
	"math"
	"slices"
	"testing"

	"shipwright/api"
	"shipwright/drift"
	"shipwright/lattice"
	"shipwright/manifest"
	"shipwright/policy"
)

// ends are numbers at the ends of their types, or near those that mean something.
var ends = []int64{math.MinInt64, math.MinInt64 + 1, math.MinInt32, -16, -2, -1, 0, 1, 15, 16, 32, 1 << 32, api.MaxEpoch, api.MaxEpoch + 1, math.MaxInt64 - 1, math.MaxInt64}

// noNodes are nodes that no plan has.
var noNodes = []int{-1, -2, -3, -9, 9, 10, 16, 255, 256, 1 << 32, 1<<32 + 1, -1 << 32, math.MinInt, math.MinInt + 1, math.MaxInt, math.MaxInt - 1}

// plan is the chapter's: its majority is 2.
func plan() api.Config {
	return api.Config{
		Nodes: 3, Slots: 1, Rho: 100, Hold: 10000, Grant: 20000, Guard: 1100, Work: 1000,
		Stages: []int{0, 0, 1}, Needs: []int{2, 1}, Soak: 2, Pass: 500,
	}
}

// nine is a plan of nine nodes, whose majority is 5: 1, 3 and 6 have the stage 0, 2, 5 and 8 the stage 1, 0 and 7 the stage 2, and 4 the stage 3.
func nine() api.Config {
	c := plan()
	c.Nodes = 9
	c.Stages = []int{2, 0, 1, 0, 3, 1, 0, 2, 1}
	c.Needs = []int{2, 3, 1, 1}
	return c
}

// said are facts of a kind and an epoch, one for each node.
func said(kind int, epoch int64, nodes ...int) []api.Fact {
	var l []api.Fact
	for _, node := range nodes {
		l = append(l, api.Fact{Kind: kind, Epoch: epoch, Node: node})
	}
	return l
}

func healthy(epoch int64, nodes ...int) []api.Fact {
	return said(api.FHealthy, epoch, nodes...)
}

func abort(epoch int64, nodes ...int) []api.Fact {
	return said(api.FAbort, epoch, nodes...)
}

// published are epochs, each with its manifest.
func published(epochs ...int64) []api.Fact {
	var l []api.Fact
	for _, epoch := range epochs {
		m, err := manifest.Build([]byte{byte(epoch), 1, 2, 3, 4, 5}, 4)
		if err != api.OK {
			panic(err)
		}
		l = append(l, api.Fact{Kind: api.FEpoch, Epoch: epoch, Node: int(epoch % 16), Manifest: m})
	}
	return l
}

// all are facts that may be, of some lists of them: they rise.
func all(t *testing.T, lists ...[]api.Fact) []api.Fact {
	t.Helper()
	many := slices.Concat(lists...)
	l := lattice.Merge(api.MaxNodes, nil, many)
	if len(l) != len(many) {
		t.Fatalf("of %d facts just %d may be", len(many), len(l))
	}
	return l
}

// told is a list, number by number, in a short form.
func told(l []api.Fact) [][3]int64 {
	var t [][3]int64
	for _, f := range l[:min(len(l), 20)] {
		t = append(t, [3]int64{int64(f.Kind), f.Epoch, int64(f.Node)})
	}
	return t
}

// draw is the next one of numbers that look like chance.
func draw(k *uint64, below int) int {
	*k = *k*6364136223846793005 + 1442695040888963407
	return int(*k >> 33 % uint64(below))
}

// mayBe fails the test unless a plan may be.
func mayBe(t *testing.T, c api.Config) {
	t.Helper()
	if err := drift.Check(c); err != api.OK {
		t.Fatalf("%v: %v", c, err)
	}
}

// mustGate tells of a Gate that answers something else.
func mustGate(t *testing.T, c api.Config, l []api.Fact, node int, epoch int64, want bool) {
	t.Helper()
	if got := policy.Gate(c, l, node, epoch); got != want {
		t.Errorf("Gate(%d, %d) of %v and %v, needs %v: %v", node, epoch, told(l), c.Stages, c.Needs, got)
	}
}

// mustWish tells of a Wish that answers something else.
func mustWish(t *testing.T, c api.Config, l []api.Fact, node int, running, other, want int64) {
	t.Helper()
	if got := policy.Wish(c, l, node, running, other); got != want {
		t.Errorf("Wish(%d, %d, %d) of %v and %v, needs %v: %d, want %d", node, running, other, told(l), c.Stages, c.Needs, got, want)
	}
}

// mustFetch tells of a Fetch that answers something else.
func mustFetch(t *testing.T, c api.Config, l []api.Fact, running, want int64) {
	t.Helper()
	if got := policy.Fetch(c, l, running); got != want {
		t.Errorf("Fetch(%d) of %v and %d nodes: %d, want %d", running, told(l), c.Nodes, got, want)
	}
}

// P12.1, P12.2: the chapter's examples.
func TestExamples(t *testing.T) {
	c := plan()
	mustGate(t, c, healthy(16, 0), 2, 16, false)
	mustGate(t, c, healthy(16, 0, 1), 2, 16, true)
	mustWish(t, c, published(16), 0, 0, -1, 16)
}

// What the other tests go by: their plans may be, and how many are a majority of them.
func TestPlansMayBe(t *testing.T) {
	mayBe(t, plan())
	mayBe(t, nine())
	if a, b := drift.Majority(plan()), drift.Majority(nine()); a != 2 || b != 5 {
		t.Error(a, b)
	}
}
