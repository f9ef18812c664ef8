package policy_test

import (
	"math"
	"slices"
	"testing"

	"shipwright/api"
	"shipwright/policy"
)

// several are facts that may be, of all kinds.
func several(t *testing.T) []api.Fact {
	return all(t, published(16, 17, 34), healthy(17, 0, 1, 3), healthy(34, 0, 1, 2), abort(34, 1, 2, 5, 6, 7), abort(16, 0))
}

// handMade are lists that nobody added: they do not rise, have one twice, or members that may not be.
func handMade(t *testing.T) [][]api.Fact {
	backwards := several(t)
	slices.Reverse(backwards)
	var odd []api.Fact
	for _, epoch := range ends {
		for _, n := range ends {
			odd = append(odd, api.Fact{Kind: int(n), Epoch: epoch, Node: int(epoch)})
			odd = append(odd, said(api.FEpoch, epoch, int(n))...)
			odd = append(odd, healthy(epoch, int(n), 0, 1)...)
			odd = append(odd, abort(epoch, int(n))...)
		}
	}
	return [][]api.Fact{
		backwards, slices.Concat(several(t), several(t)), slices.Concat(backwards, several(t)), odd, make([]api.Fact, 300),
		healthy(16, 1, 0, 1, 1), append(abort(32, 2, 2), published(32, 16)...), published(16, 16, 16), append(published(48, 0), abort(48, -1, 9)...), append(abort(0, 0, 1, 2), healthy(0, 7)...),
		{{Kind: api.FEpoch, Epoch: 16, Node: 7, Manifest: api.Manifest{Size: -1, Chunk: math.MinInt, Chunks: make([][32]byte, 300)}}},
	}
}

// R1, R5: of lists made by hand, and of whatever numbers, each call has an answer, and that is what the chapter's words say.
func TestHandMadeLists(t *testing.T) {
	for _, c := range []api.Config{plan(), nine()} {
		for _, l := range handMade(t) {
			for node := range c.Nodes {
				for _, running := range append([]int64{17, 34, 48}, ends...) {
					mustGate(t, c, l, node, running, toldGate(c, l, node, running))
					mustFetch(t, c, l, running, toldFetch(c, l, running))
					for _, other := range []int64{math.MinInt64, none, 0, 15, 16, 17, running - 1, running, running + 1, math.MaxInt64} {
						mustWish(t, c, l, node, running, other, toldWish(c, l, node, running, other))
					}
				}
			}
		}
	}
}

// R1: lists and plans made by hand at once: nothing is answered of such plans.
func TestHandMadePlans(t *testing.T) {
	for _, c := range refused() {
		for _, l := range handMade(t) {
			for _, node := range []int{-1, 0, 1, 2, 3, 9, math.MaxInt} {
				mustGate(t, c, l, node, 16, false)
				mustWish(t, c, l, node, 34, 16, 34)
				mustFetch(t, c, l, math.MinInt64, math.MinInt64)
			}
		}
	}
}

// R1: far more facts than may be are gone through in good time.
func TestVeryLongLists(t *testing.T) {
	const many = 50000
	l := make([]api.Fact, 0, 3*many)
	for i := range int64(many) {
		l = append(l, api.Fact{Kind: api.FEpoch, Epoch: 16 * (i + 1)}, api.Fact{Kind: api.FHealthy, Epoch: 16 * many, Node: 9}, api.Fact{Kind: api.FAbort, Epoch: 16, Node: 9})
	}
	c := plan()
	mustGate(t, c, l, 2, 16*many, false)
	mustWish(t, c, l, 0, 16, 0, 16*many)
	mustWish(t, c, l, 2, 16, 0, 0)
	mustFetch(t, c, l, 16, 16*many)
	l[1].Node, l[4].Node = 0, 1
	mustGate(t, c, l, 2, 16*many, true)
}

// roomy is a plan with spare room behind its rows, and what stands there with them.
func roomy(c api.Config) (_ api.Config, stages, needs []int) {
	stages = append(slices.Clone(c.Stages), 3, -1, 7, 0, 1)
	needs = append(slices.Clone(c.Needs), 9, -9, 8, 1, 1)
	c.Stages, c.Needs = stages[:len(c.Stages)], needs[:len(c.Needs)]
	return c, stages, needs
}

// roomyFacts are facts with spare room behind them, that holds others.
func roomyFacts(l []api.Fact) (facts, whole []api.Fact) {
	whole = slices.Concat(l, published(48), healthy(48, 0, 1), abort(17, 0, 1, 2, 3, 4))
	return whole[:len(l)], whole
}

// snapshot is all that facts are, in memory of their own.
func snapshot(l []api.Fact) []api.Fact {
	own := slices.Clone(l)
	for i := range own {
		own[i].Manifest.Chunks = slices.Clone(own[i].Manifest.Chunks)
	}
	return own
}

func sameFact(a, b api.Fact) bool {
	m, n := a.Manifest, b.Manifest
	return a.Kind == b.Kind && a.Epoch == b.Epoch && a.Node == b.Node && m.Size == n.Size && m.Chunk == n.Chunk && m.Whole == n.Whole && slices.Equal(m.Chunks, n.Chunks)
}

// askAll calls all functions, of each node and of many epochs.
func askAll(c api.Config, l []api.Fact) []any {
	var answers []any
	for node := range c.Nodes {
		for _, running := range append([]int64{17, 34, 48}, ends...) {
			answers = append(answers, policy.Gate(c, l, node, running), policy.Fetch(c, l, running), policy.Wish(c, l, node, running, none), policy.Wish(c, l, node, running, 0), policy.Wish(c, l, node, running, 17))
		}
	}
	return answers
}

// R4: neither a plan's rows nor facts are changed, nor what lies in their spare room, and that is not read.
func TestNothingIsChanged(t *testing.T) {
	for _, plain := range []api.Config{plan(), nine()} {
		for i, given := range append(handMade(t), several(t), nil) {
			c, stages, needs := roomy(plain)
			l, whole := roomyFacts(given)
			wasStages, wasNeeds, was := slices.Clone(stages), slices.Clone(needs), snapshot(whole)
			if !slices.Equal(askAll(c, l), askAll(plain, slices.Clip(given))) {
				t.Errorf("%d: the room behind lists is read", i)
			}
			if !slices.Equal(stages, wasStages) || !slices.Equal(needs, wasNeeds) || !slices.EqualFunc(whole, was, sameFact) {
				t.Errorf("%d: what was handed in is another thing by now", i)
			}
		}
	}
}

// R4, R5: nothing is kept: what is answered follows what is handed in when it is changed, and comes back with it.
func TestNothingIsKept(t *testing.T) {
	c, l := plan(), all(t, published(16, 32), healthy(32, 0, 1), abort(16, 0, 1))
	for range 3 {
		mustGate(t, c, l, 2, 32, true)
		mustWish(t, c, l, 2, 16, 0, 32)
		mustFetch(t, c, l, 16, 32)
		c.Needs[1] = 2
		mustGate(t, c, l, 2, 32, false)
		mustWish(t, c, l, 2, 16, 0, 16)
		mustFetch(t, c, l, 16, 16)
		c.Needs[1] = 1
		for i, f := range l {
			l[i].Node = 7
			mustGate(t, c, l, 2, 32, f.Kind != api.FHealthy)
			l[i].Node = f.Node
		}
		for i, f := range l {
			if f.Kind == api.FEpoch {
				l[i].Epoch = 64
				mustFetch(t, c, l, 16, 64)
				l[i].Epoch = f.Epoch
				mustFetch(t, c, l, 16, 32)
			}
		}
	}
}
