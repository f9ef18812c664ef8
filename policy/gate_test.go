package policy_test

import (
	"math"
	"slices"
	"testing"

	"shipwright/api"
)

// rows are the nodes of each stage of nine.
var rows = [][]int{{1, 3, 6}, {2, 5, 8}, {0, 7}, {4}}

// P12.1: of a node of the stage 0 nothing is asked.
func TestGateOfTheFirstStage(t *testing.T) {
	for _, l := range [][]api.Fact{nil, {}, healthy(16, 1), healthy(16, 0, 1, 2, 3, 4, 5, 6, 7, 8), abort(16, 0, 1, 2, 3, 4), published(16)} {
		for _, epoch := range ends {
			for _, node := range rows[0] {
				mustGate(t, nine(), l, node, epoch, true)
			}
		}
	}
}

// P12.1: just as many as Needs tells of each stage below, and one less.
func TestGateAtNeeds(t *testing.T) {
	for _, x := range []struct {
		node  int
		below []int
		want  bool
	}{
		{2, []int{1, 3}, true},
		{2, []int{3, 6}, true},
		{2, []int{1, 3, 6}, true},
		{5, []int{1, 6}, true},
		{8, []int{1}, false},
		{8, nil, false},
		{0, []int{1, 3, 2, 5, 8}, true},
		{7, []int{1, 3, 6, 2, 5, 8}, true},
		{0, []int{1, 2, 5, 8}, false}, // one less in the first stage
		{0, []int{2, 5, 8}, false},
		{0, []int{1, 3, 2, 5}, false}, // one less in the last one
		{7, []int{1, 3, 6, 5, 8}, false},
		{7, []int{1, 3, 6}, false},
		{7, []int{6, 5, 8}, false}, // one less in both
		{7, nil, false},
		{4, []int{1, 3, 2, 5, 8, 0}, true},
		{4, []int{1, 3, 2, 5, 8, 7}, true},
		{4, []int{1, 2, 5, 8, 7}, false},
		{4, []int{1, 3, 2, 8, 7}, false}, // one less in the one between
		{4, []int{1, 3, 2, 5, 8}, false},
	} {
		mustGate(t, nine(), all(t, healthy(35, x.below...)), x.node, 35, x.want)
	}
}

// P12.1: its own stage, and those above, are neither asked nor counted.
func TestGateOfOtherStages(t *testing.T) {
	for _, x := range []struct {
		node  int
		nodes []int
		want  bool
	}{
		{2, []int{2, 5, 8, 0, 7, 4}, false},
		{2, []int{1, 2, 5, 8, 0, 7, 4}, false},
		{0, []int{1, 3, 0, 7, 4}, false},
		{0, []int{1, 3, 2, 5, 0, 7, 4}, false},
		{4, []int{1, 3, 2, 5, 8, 4}, false},
		// Those of one stage below do not stand for another one's.
		{0, []int{1, 3, 6, 2, 5}, false},
		{0, []int{1, 2, 5, 8, 4}, false},
		{4, []int{1, 2, 5, 8, 0, 7}, false},
		{4, []int{1, 3, 6, 2, 5, 8}, false},
	} {
		mustGate(t, nine(), all(t, healthy(16, x.nodes...)), x.node, 16, x.want)
	}
}

// P12.1: what is said of another epoch, or what else is said of this one, does not count.
func TestGateOfOtherFacts(t *testing.T) {
	c := plan()
	for _, epoch := range []int64{17, 24, 32, 16 + 1<<32, api.MaxEpoch} {
		mustGate(t, c, all(t, healthy(epoch, 0, 1, 2)), 2, 16, false)
		mustGate(t, c, all(t, healthy(16, 0), healthy(epoch, 1)), 2, 16, false)
		mustGate(t, c, all(t, healthy(16, 0), healthy(epoch, 1)), 2, epoch, false)
		mustGate(t, c, all(t, healthy(16, 0, 1), healthy(epoch, 2)), 2, 16, true)
		mustGate(t, c, all(t, healthy(16, 0, 1), healthy(epoch, 2)), 2, epoch, false)
	}
	mustGate(t, c, all(t, healthy(16, 0), abort(16, 1)), 2, 16, false)
	mustGate(t, c, all(t, abort(16, 0, 1, 2)), 2, 16, false)
	mustGate(t, c, all(t, published(16, 17), healthy(17, 0)), 2, 17, false)
	mustGate(t, c, all(t, published(17), healthy(17, 0), abort(17, 1)), 2, 17, false)
	// Neither does it stand against those that are healthy.
	mustGate(t, c, all(t, healthy(16, 0, 1), abort(16, 0, 1, 2)), 2, 16, true)
	for _, kind := range []int{math.MinInt, -2, -1, 0, 1, 3, 4, 2 + 1<<32, math.MaxInt} {
		mustGate(t, c, said(kind, 16, 0, 1), 2, 16, false)
	}
}

// P12.1: of the epoch 0, and of others that nobody publishes, what is said counts likewise.
func TestGateOfNoEpoch(t *testing.T) {
	c := plan()
	for _, epoch := range ends {
		mustGate(t, c, nil, 2, epoch, false)
		mustGate(t, c, healthy(33, 0, 1), 2, epoch, false)
		mustGate(t, c, healthy(epoch, 0), 2, epoch, false)
		mustGate(t, c, healthy(epoch, 0, 1), 2, epoch, true)
	}
}

// P12.1: one that is not of the plan does not count, and one that says it twice counts once.
func TestGateCountsNodes(t *testing.T) {
	c := plan()
	for _, node := range noNodes {
		mustGate(t, c, healthy(16, 0, node), 2, 16, false)
		mustGate(t, c, healthy(16, node, 0, node, 1, node), 2, 16, true)
	}
	mustGate(t, c, healthy(16, 0, 3), 2, 16, false)
	mustGate(t, c, healthy(16, 0, 0, 0), 2, 16, false)
	mustGate(t, c, healthy(16, 1, 1, 2, 2, 1), 2, 16, false)
	mustGate(t, c, healthy(16, 1, 1, 2, 0), 2, 16, true)
}

// P12.1: each part of nine nodes, by several Needs: just those of the stages below are counted.
func TestGateOfEachPart(t *testing.T) {
	for _, needs := range [][]int{{0, 0, 0, 0}, {1, 1, 1, 1}, {2, 3, 1, 0}, {3, 3, 2, 1}, {0, 2, 0, 1}, {3, 0, 2, 0}, {0, 0, 2, 1}} {
		c := nine()
		c.Needs = needs
		mayBe(t, c)
		for part := range 1 << 9 {
			var nodes []int
			for node := range 9 {
				if part>>node&1 == 1 {
					nodes = append(nodes, node)
				}
			}
			want := true
			for stage, row := range rows {
				for _, node := range row {
					mustGate(t, c, healthy(48, nodes...), node, 48, want)
				}
				many := 0
				for _, node := range row {
					if slices.Contains(nodes, node) {
						many++
					}
				}
				want = want && many >= needs[stage]
			}
		}
	}
}

// P12.1: a stage that no node has, or that needs none, holds nobody up.
func TestGateOfNoNeeds(t *testing.T) {
	c := plan()
	c.Stages, c.Needs = []int{0, 3, 3}, []int{1, 0, 0, 2}
	mayBe(t, c)
	mustGate(t, c, nil, 1, 16, false)
	mustGate(t, c, healthy(16, 0), 1, 16, true)
	mustGate(t, c, healthy(16, 1, 2), 2, 16, false)
	c.Needs = []int{0, 0, 0, 2}
	mayBe(t, c)
	mustGate(t, c, nil, 2, 16, true)
	// No node has the stage 0.
	c.Stages, c.Needs = []int{1, 1, 2}, []int{0, 2, 1}
	mayBe(t, c)
	mustGate(t, c, nil, 0, 16, true)
	mustGate(t, c, healthy(16, 0), 2, 16, false)
	mustGate(t, c, healthy(16, 0, 1), 2, 16, true)
}
