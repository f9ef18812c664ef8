package policy_test

import (
	"slices"
	"testing"

	"shipwright/api"
	"shipwright/drift"
	"shipwright/lattice"
	"shipwright/policy"
)

// someEpochs are some that may be published, by the nodes 0 to 2, and the one of 0.
var someEpochs = []int64{0, 16, 17, 32, 33, 34, 48}

// somePlan is a plan of any number of nodes, of any stages.
func somePlan(k *uint64) api.Config {
	c := plan()
	c.Nodes = 1 + draw(k, api.MaxNodes)
	c.Slots = 1 + draw(k, c.Nodes)
	c.Stages, c.Needs = nil, nil
	var many [api.MaxStages]int
	for range c.Nodes {
		stage := draw(k, api.MaxStages)
		c.Stages = append(c.Stages, stage)
		many[stage]++
	}
	for stage := range slices.Max(c.Stages) + 1 {
		c.Needs = append(c.Needs, draw(k, many[stage]+1))
	}
	return c
}

// someFacts are facts that may be, of so many nodes, of all kinds.
func someFacts(k *uint64, nodes int) []api.Fact {
	var l []api.Fact
	for range draw(k, 80) {
		epoch, node := someEpochs[draw(k, len(someEpochs))], draw(k, nodes)
		f := [][]api.Fact{published(epoch), healthy(epoch, node), abort(epoch, node), abort(epoch, node)}[draw(k, 4)][0]
		// Those that may not be are left out.
		l, _ = lattice.Add(nodes, l, f)
	}
	return l
}

// toldGate is what the chapter's words say of a gate.
func toldGate(c api.Config, l []api.Fact, node int, epoch int64) bool {
	for stage := 0; stage < c.Stages[node]; stage++ {
		many := 0
		for k := range c.Stages {
			if c.Stages[k] == stage && lattice.Has(l, api.FHealthy, epoch, k) {
				many++
			}
		}
		if many < c.Needs[stage] {
			return false
		}
	}
	return true
}

// toldWish is what the chapter's words say of what a node wants to run.
func toldWish(c api.Config, l []api.Fact, node int, running, other int64) int64 {
	aborted := func(epoch int64) bool { return lattice.Aborted(l, epoch, drift.Majority(c)) }
	best := lattice.Best(l, drift.Majority(c))
	if best > running && toldGate(c, l, node, best) {
		return best
	}
	if running != 0 && aborted(running) && other >= 0 && other < running && (other == 0 || !aborted(other)) {
		return other
	}
	return running
}

// toldFetch is what the chapter's words say of what a node wants to have beside.
func toldFetch(c api.Config, l []api.Fact, running int64) int64 {
	best := lattice.Best(l, drift.Majority(c))
	if best > running || running != 0 && lattice.Aborted(l, running, drift.Majority(c)) && best != 0 {
		return best
	}
	return running
}

// P12.1 to P12.3: many lists, plans, nodes and epochs, held against the chapter's words.
func TestAsTold(t *testing.T) {
	k := uint64(12)
	for range 400 {
		c := somePlan(&k)
		mayBe(t, c)
		l := someFacts(&k, c.Nodes)
		for node := range c.Nodes {
			for _, running := range someEpochs {
				mustGate(t, c, l, node, running, toldGate(c, l, node, running))
				mustFetch(t, c, l, running, toldFetch(c, l, running))
				for _, other := range append([]int64{none}, someEpochs...) {
					mustWish(t, c, l, node, running, other, toldWish(c, l, node, running, other))
				}
			}
		}
	}
}

// P12.4, W2: what a node wants is not aborted, unless it runs it; a greater one than it runs was published, and its gate is open.
func TestNobodyWantsTheAborted(t *testing.T) {
	k := uint64(4)
	stays, up, back := 0, 0, 0
	for range 1500 {
		c := somePlan(&k)
		l := someFacts(&k, c.Nodes)
		for node := range c.Nodes {
			for _, running := range someEpochs {
				other := append([]int64{none}, someEpochs...)[draw(&k, len(someEpochs)+1)]
				fetch, wish := policy.Fetch(c, l, running), policy.Wish(c, l, node, running, other)
				for _, wanted := range []int64{wish, fetch} {
					if wanted != running && lattice.Aborted(l, wanted, drift.Majority(c)) {
						t.Errorf("%v: node %d runs %d, has %d, and wants %d, that is aborted", told(l), node, running, other, wanted)
					}
				}
				switch {
				case wish == running:
					stays++
				case wish < running:
					back++
				default:
					up++
					if len(lattice.Who(l, api.FEpoch, wish)) != 1 || !policy.Gate(c, l, node, wish) {
						t.Errorf("%v: node %d runs %d, has %d, and wants %d", told(l), node, running, other, wish)
					}
				}
			}
		}
	}
	if stays < 1000 || up < 1000 || back < 1000 {
		t.Errorf("of %d, %d and %d alone nothing follows", stays, up, back)
	}
}

// P12.4: a gate that is open stays open, and what was wanted for it is, whoever else finds the epoch healthy.
func TestMoreOpenNoGateLess(t *testing.T) {
	k := uint64(8)
	opened := 0
	for range 500 {
		c := somePlan(&k)
		l := someFacts(&k, c.Nodes)
		epoch := someEpochs[1+draw(&k, len(someEpochs)-1)]
		for range 3 * c.Nodes {
			more, _ := lattice.Add(c.Nodes, l, healthy(epoch, draw(&k, c.Nodes))[0])
			for node := range c.Nodes {
				was, is := policy.Gate(c, l, node, epoch), policy.Gate(c, more, node, epoch)
				if was && !is {
					t.Errorf("%v and one more: the gate of %d for node %d is shut", told(l), epoch, node)
				}
				if !was && is {
					opened++
				}
				if was := policy.Wish(c, l, node, 0, none); was != 0 && policy.Wish(c, more, node, 0, none) != was {
					t.Errorf("%v and one more: node %d does not want %d any more", told(l), node, was)
				}
			}
			l = more
		}
	}
	if opened < 300 {
		t.Errorf("just %d gates were opened", opened)
	}
}

// P12.4: so it is where one says it twice, or is not of the plan.
func TestMoreByHandOpenNoGateLess(t *testing.T) {
	k := uint64(2)
	for range 500 {
		c := somePlan(&k)
		var l []api.Fact
		for range 20 {
			more := slices.Insert(slices.Clone(l), draw(&k, len(l)+1), healthy(16, draw(&k, 12)-1)[0])
			for node := range c.Nodes {
				if policy.Gate(c, l, node, 16) && !policy.Gate(c, more, node, 16) {
					t.Errorf("%v and one more: the gate for node %d is shut", told(l), node)
				}
				mustGate(t, c, more, node, 16, toldGate(c, more, node, 16))
			}
			l = more
		}
	}
}
