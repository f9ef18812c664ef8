package drift

import (
	"slices"

	"shipwright/api"
)

// Check tells whether a plan may be.
func Check(c api.Config) api.Errno {
	for _, met := range needed(c) {
		if !met() {
			return api.ErrConfig
		}
	}
	return api.OK
}

// needed is what a plan needs. Each of it is asked only where all ahead of it is met: else a product might be beyond all numbers, and a list without members have a greatest one.
func needed(c api.Config) [10]func() bool {
	return [...]func() bool{
		func() bool { return within(c.Nodes, 1, api.MaxNodes) },
		func() bool { return within(c.Slots, 1, c.Nodes) },
		func() bool { return within(c.Rho, 0, api.MaxRho) },
		func() bool { return areTimes(c.Hold, c.Grant, c.Guard, c.Work) },
		// So a lease ends by a slow clock ahead of its grants by fast ones.
		func() bool { return c.Hold*fastest(c) < c.Grant*slowest(c) },
		// So no tick goes past Guard.
		func() bool { return c.Guard >= fastest(c) },
		func() bool { return len(c.Stages) == c.Nodes && areStages(c.Stages) },
		func() bool { return len(c.Needs) == slices.Max(c.Stages)+1 && canBeMet(c.Needs, c.Stages) },
		func() bool { return within(c.Soak, 1, api.MaxSoak) },
		func() bool { return within(c.Pass, 0, topPass) },
	}
}

// within tells whether n is from least to most.
func within(n, least, most int) bool {
	return least <= n && n <= most
}

// areTimes tells whether each is how long something may take.
func areTimes(l ...int64) bool {
	return slices.Min(l) >= 1 && slices.Max(l) <= api.MaxTime
}

// areStages tells whether each is a stage.
func areStages(l []int) bool {
	return slices.Min(l) >= 0 && slices.Max(l) < api.MaxStages
}

// canBeMet tells whether no stage needs more nodes than have it.
func canBeMet(needs, stages []int) bool {
	var nodes [api.MaxStages]int
	for _, stage := range stages {
		nodes[stage]++
	}
	for stage, need := range needs {
		if !within(need, 0, nodes[stage]) {
			return false
		}
	}
	return true
}
