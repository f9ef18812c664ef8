package drift_test

import (
	"math"
	"math/big"
	"strconv"
	"testing"

	"shipwright/api"
	"shipwright/drift"
)

// special is a plan, and what is special of it.
type special struct {
	why  string
	plan api.Config
}

// each is plan with one number set to each of l in turn.
func each(name string, set func(c *api.Config, n int64), l ...int64) []special {
	var all []special
	for _, n := range l {
		c := changed(func(c *api.Config) { set(c, n) })
		all = append(all, special{name + " " + strconv.FormatInt(n, 10), c})
	}
	return all
}

// The fields of a plan that are one number. Where one hangs on another, that is set so that it is no reason to refuse the plan.
func setSlots(c *api.Config, n int64) { c.Slots = int(n) }
func setWork(c *api.Config, n int64)  { c.Work = n }
func setSoak(c *api.Config, n int64)  { c.Soak = int(n) }
func setPass(c *api.Config, n int64)  { c.Pass = int(n) }
func setGuard(c *api.Config, n int64) { c.Guard = n }
func setHold(c *api.Config, n int64)  { c.Rho, c.Hold, c.Grant = 0, n, api.MaxTime }
func setGrant(c *api.Config, n int64) { c.Rho, c.Hold, c.Grant = 0, 1, n }
func setRho(c *api.Config, n int64) {
	c.Rho, c.Hold, c.Grant, c.Guard = int(n), 1, api.MaxTime, api.MaxTime
}

// setNodes has as many stages as nodes, but for numbers that no list can have.
func setNodes(c *api.Config, n int64) {
	*c = alike(int(min(max(n, 0), 20)))
	c.Nodes = int(n)
}

// setTimes has a Hold, and a Grant at some Rho.
func setTimes(why string, rho int, hold, grant int64) special {
	return special{why, changed(func(c *api.Config) { c.Rho, c.Hold, c.Grant, c.Guard = rho, hold, grant, 2000 })}
}

// setRows has such Stages and Needs, and as many nodes as told.
func setRows(why string, nodes int, stages, needs []int) special {
	return special{why, changed(func(c *api.Config) { c.Nodes, c.Stages, c.Needs = nodes, stages, needs })}
}

// list joins lists of plans.
func list(parts ...[]special) []special {
	var all []special
	for _, l := range parts {
		all = append(all, l...)
	}
	return all
}

// allowed are plans at their limits.
func allowed() []special {
	return list(
		each("Nodes", setNodes, 1, 2, 3, 8, 9),
		each("Slots", setSlots, 1, 2, 3),
		each("Rho", setRho, 0, 1, 499, 500),
		each("Hold", setHold, 1, 2, 1<<30-1),
		each("Grant", setGrant, 2, 1<<30-1, 1<<30),
		each("Guard", setGuard, 1100, 1101, 1<<30-1, 1<<30),
		each("Work", setWork, 1, 2, 1<<30-1, 1<<30),
		each("Soak", setSoak, 1, 2, 19, 20),
		each("Pass", setPass, 0, 1, 999, 1000),
		allowedTimes(),
		allowedRows(),
	)
}

// allowedTimes are plans whose leases end just ahead of their grants, whatever clocks do.
func allowedTimes() []special {
	return []special{
		setTimes("just less, Rho 0", 0, 9999, 10000),
		setTimes("just less, Rho 0, the least", 0, 1, 2),
		setTimes("just less, Rho 0, the greatest", 0, 1<<30-1, 1<<30),
		setTimes("just less, Rho 500", 500, 3333, 10000),
		setTimes("just less, Rho 500, the least", 500, 1, 4),
		setTimes("just less, Rho 500, the greatest", 500, 357913941, 1<<30),
		setTimes("just less, Rho 100", 100, 10000, 12223),
		setTimes("one less in all, Rho 1", 1, 499, 500),
	}
}

// allowedRows are plans whose rows may be.
func allowedRows() []special {
	return []special{
		setRows("one node", 1, []int{0}, []int{1}),
		setRows("all of the greatest stage", 3, []int{3, 3, 3}, []int{0, 0, 0, 3}),
		setRows("a stage of its own each", 4, []int{3, 2, 1, 0}, []int{1, 1, 1, 1}),
		setRows("needs of none", 4, []int{0, 1, 2, 3}, []int{0, 0, 0, 0}),
		setRows("a stage of no node", 3, []int{0, 2, 2}, []int{1, 0, 2}),
		setRows("as many as there are", 9, []int{0, 1, 0, 1, 0, 1, 0, 1, 0}, []int{5, 4}),
		setRows("less than there are", 9, []int{0, 1, 0, 1, 0, 1, 0, 1, 0}, []int{4, 3}),
		special{"Slots of nine nodes", changed(func(c *api.Config) { *c = alike(9); c.Slots = 9 })},
	}
}

// refused are plans one of whose things may not be; of the last ones two.
func refused() []special {
	return list(
		[]special{{"nothing at all", api.Config{}}},
		each("Nodes", setNodes, math.MinInt64, math.MinInt32, -1, 0, 10, 11, math.MaxInt32, math.MaxInt64),
		each("Slots", setSlots, math.MinInt64, -1, 0, 4, 9, 10, math.MaxInt64),
		each("Rho", setRho, math.MinInt64, math.MinInt64+1000, -1001, -1000, -999, -1, 501, 999, 1000, 1001, math.MaxInt64-1000, math.MaxInt64),
		each("Hold", setHold, math.MinInt64, -1, 0, 1<<30, 1<<30+1, math.MaxInt64),
		each("Grant", setGrant, math.MinInt64, -1, 0, 1, 1<<30+1, 1<<31, math.MaxInt64),
		each("Guard", setGuard, math.MinInt64, -1, 0, 1, 1099, 1<<30+1, 1<<32+1100, math.MaxInt64),
		each("Work", setWork, math.MinInt64, -1, 0, 1<<30+1, 1<<32+1, math.MaxInt64),
		each("Soak", setSoak, math.MinInt64, -1, 0, 21, 1<<32+1, math.MaxInt64),
		each("Pass", setPass, math.MinInt64, -1, 1001, 1<<32, math.MaxInt64),
		refusedTimes(),
		refusedRows(),
		twoReasons(),
	)
}

// refusedTimes are plans whose leases may outlive their grants, or whose times are beyond all.
func refusedTimes() []special {
	return []special{
		setTimes("the same, Rho 0", 0, 10000, 10000),
		setTimes("one more, Rho 0", 0, 10001, 10000),
		setTimes("the same, Rho 0, the least", 0, 1, 1),
		setTimes("the same, Rho 0, the greatest", 0, 1<<30, 1<<30),
		setTimes("the same, Rho 500", 500, 3333, 9999),
		setTimes("one more, Rho 500", 500, 3334, 10000),
		setTimes("the same, Rho 500, the least", 500, 1, 3),
		setTimes("one more, Rho 500, the greatest", 500, 357913942, 1<<30),
		setTimes("one more, Rho 100", 100, 10000, 12222),
		setTimes("the same, Rho 1", 1, 999, 1001),
		setTimes("one more in all, Rho 1", 1, 500, 501),
		// Beyond MaxTime, though the products are as they should be.
		setTimes("both beyond", 0, 1<<30+1, 1<<30+2),
		setTimes("Grant beyond", 0, 1<<30, 1<<30+1),
		// Products of these are beyond all numbers with a sign: in 64 bits that of Hold is below 0, or 0, and so less.
		setTimes("Hold wraps round", 0, math.MaxInt64/1000+1, api.MaxTime),
		setTimes("Hold wraps round to 0", 0, 1<<61, api.MaxTime),
		setTimes("Hold wraps round, Rho 500", 500, math.MaxInt64/1500+1, api.MaxTime),
		setTimes("both wrap round", 0, 1<<61, 1<<61+1),
		setTimes("the greatest", 0, math.MaxInt64-1, math.MaxInt64),
		setTimes("the least", 0, math.MinInt64, 1),
		setTimes("both below 0", 0, -2, -1),
		special{"Guard one less than a tick, Rho 0", changed(func(c *api.Config) { c.Rho, c.Guard = 0, 999 })},
		special{"Guard one less than a tick, Rho 500", changed(func(c *api.Config) { c.Rho, c.Hold, c.Guard = 500, 1, 1499 })},
	}
}

// refusedRows are plans whose rows may not be.
func refusedRows() []special {
	return []special{
		setRows("no stages", 3, nil, []int{2, 1}),
		setRows("neither stages nor needs", 3, nil, nil),
		setRows("empty rows", 3, []int{}, []int{}),
		setRows("one stage less", 3, []int{0, 1}, []int{1, 1}),
		setRows("one stage more", 3, []int{0, 0, 1, 1}, []int{2, 1}),
		setRows("one stage", 9, []int{0}, []int{1}),
		setRows("ten stages", 9, make([]int, 10), []int{1}),
		setRows("a great many stages", 9, make([]int, 100000), []int{1}),
		setRows("a stage of -1", 3, []int{0, -1, 1}, []int{1, 1}),
		setRows("stages of -1 alone", 3, []int{-1, -1, -1}, nil),
		setRows("a stage of 4", 3, []int{0, 4, 1}, []int{1, 1, 0, 0, 1}),
		setRows("a stage of 4, needs of four", 3, []int{0, 4, 1}, []int{1, 1, 0, 0}),
		setRows("the greatest stage", 3, []int{0, 0, math.MaxInt}, []int{2}),
		setRows("the least stage", 3, []int{0, 0, math.MinInt}, []int{2}),
		setRows("a stage beyond 32 bits", 3, []int{0, 0, 1 << 32}, []int{2}),
		setRows("no needs", 3, []int{0, 0, 1}, nil),
		setRows("one need less", 3, []int{0, 0, 1}, []int{2}),
		setRows("one need more", 3, []int{0, 0, 1}, []int{2, 1, 0}),
		setRows("a need of stages, not of the greatest", 3, []int{0, 2, 2}, []int{1, 2}),
		setRows("a great many needs", 3, []int{0, 0, 1}, make([]int, 100000)),
		setRows("five needs", 4, []int{0, 1, 2, 3}, []int{1, 1, 1, 1, 0}),
		setRows("a need of -1", 3, []int{0, 0, 1}, []int{-1, 1}),
		setRows("the last need of -1", 3, []int{0, 0, 1}, []int{2, -1}),
		setRows("one needed more", 3, []int{0, 0, 1}, []int{3, 1}),
		setRows("one needed more of the last", 3, []int{0, 0, 1}, []int{2, 2}),
		setRows("one needed of a stage of no node", 3, []int{0, 2, 2}, []int{1, 1, 2}),
		setRows("-1 needed of a stage of no node", 3, []int{0, 2, 2}, []int{1, -1, 2}),
		setRows("the greatest need", 3, []int{0, 0, 1}, []int{math.MaxInt, 1}),
		setRows("the least need", 3, []int{0, 0, 1}, []int{math.MinInt, 1}),
	}
}

// twoReasons are plans in which two things may not be; where both are of one promise's part they don't make up for each other.
func twoReasons() []special {
	return []special{
		{"neither Nodes nor Slots", changed(func(c *api.Config) { c.Nodes, c.Slots = 0, 0 })},
		{"ten of all", changed(func(c *api.Config) { *c = alike(10); c.Slots = 10 })},
		{"no Nodes, no rows", changed(func(c *api.Config) { c.Nodes, c.Stages, c.Needs = 0, nil, nil })},
		{"Nodes below 0, no rows", changed(func(c *api.Config) { c.Nodes, c.Stages, c.Needs = -1, nil, nil })},
		{"Nodes and Slots beyond", changed(func(c *api.Config) { c.Nodes, c.Slots = math.MaxInt, math.MaxInt })},
		{"Rho and Guard", changed(func(c *api.Config) { c.Rho, c.Guard = math.MinInt, math.MinInt64 })},
		{"Rho and Guard below 0", changed(func(c *api.Config) { c.Rho, c.Guard = -2000, 0 })},
		{"Rho beyond and Hold below", changed(func(c *api.Config) { c.Rho, c.Hold, c.Grant = 2000, -10, -10 })},
		{"Hold and Grant below 0", changed(func(c *api.Config) { c.Hold, c.Grant = -20000, -10000 })},
		{"Stages and Needs", changed(func(c *api.Config) { c.Stages, c.Needs = []int{0, 0, -1}, []int{3} })},
		{"Soak and Pass", changed(func(c *api.Config) { c.Soak, c.Pass = 0, -1 })},
		{"the first and the last", changed(func(c *api.Config) { c.Nodes, c.Pass = 10, 1001 })},
	}
}

// P9.1: the limits are api's.
func TestLimits(t *testing.T) {
	if api.MaxNodes != 9 || api.MaxStages != 4 || api.MaxRho != 500 || api.MaxTime != 1<<30 || api.MaxSoak != 20 || api.ErrConfig != 90 {
		t.Error(api.MaxNodes, api.MaxStages, api.MaxRho, api.MaxTime, api.MaxSoak, api.ErrConfig)
	}
}

// P9.1: plans at their limits may be.
func TestAllowedPlans(t *testing.T) {
	for _, x := range allowed() {
		if err := drift.Check(x.plan); err != api.OK {
			t.Errorf("%s: %v", x.why, err)
		}
	}
}

// P9.1: a plan may not be for each of its reasons alone, and for two.
func TestCheckRefuses(t *testing.T) {
	for _, x := range refused() {
		if err := drift.Check(x.plan); err != api.ErrConfig {
			t.Errorf("%s: %v", x.why, err)
		}
	}
}

// fits tells whether n is from least to most.
func fits(n, least, most int64) bool {
	return n >= least && n <= most
}

// told is what the chapter's words say of a plan, in their order, with numbers of any size.
func told(c api.Config) bool {
	ok := fits(int64(c.Nodes), 1, 9) && fits(int64(c.Slots), 1, int64(c.Nodes)) && fits(int64(c.Rho), 0, 500)
	for _, n := range []int64{c.Hold, c.Grant, c.Guard, c.Work} {
		ok = ok && fits(n, 1, 1<<30)
	}
	rho, thousand := big.NewInt(int64(c.Rho)), big.NewInt(1000)
	more, less := new(big.Int).Add(thousand, rho), new(big.Int).Sub(thousand, rho)
	held, granted := new(big.Int).Mul(big.NewInt(c.Hold), more), new(big.Int).Mul(big.NewInt(c.Grant), less)
	ok = ok && held.Cmp(granted) < 0 && big.NewInt(c.Guard).Cmp(more) >= 0
	ok = ok && len(c.Stages) == c.Nodes
	greatest := 0
	for _, stage := range c.Stages {
		ok = ok && fits(int64(stage), 0, 3)
		greatest = max(greatest, stage)
	}
	ok = ok && len(c.Needs) == greatest+1
	for stage, need := range c.Needs {
		nodes := 0
		for _, s := range c.Stages {
			if s == stage {
				nodes++
			}
		}
		ok = ok && fits(int64(need), 0, int64(nodes))
	}
	return ok && fits(int64(c.Soak), 1, 20) && fits(int64(c.Pass), 0, 1000)
}

// P9.1: what stands here of the chapter's words tells the plans above apart.
func TestTold(t *testing.T) {
	for _, x := range allowed() {
		if !told(x.plan) {
			t.Errorf("%s is not allowed", x.why)
		}
	}
	for _, x := range refused() {
		if told(x.plan) {
			t.Errorf("%s is allowed", x.why)
		}
	}
}

// drawnRows are stages of so many nodes, and needs that go with them.
func drawnRows(k *uint64, nodes int) (stages, needs []int) {
	var many [4]int
	greatest := 0
	for range nodes {
		stage := draw(k, 4)
		stages = append(stages, stage)
		many[stage]++
		greatest = max(greatest, stage)
	}
	for _, n := range many[:greatest+1] {
		needs = append(needs, draw(k, n+1))
	}
	return stages, needs
}

// drawn is a plan that may be; its Grant may be one too small.
func drawn(k *uint64) api.Config {
	nodes, rho := 1+draw(k, 9), draw(k, 501)
	hold := int64(1 + draw(k, 300000000))
	stages, needs := drawnRows(k, nodes)
	return api.Config{
		Nodes: nodes, Slots: 1 + draw(k, nodes), Rho: rho,
		Hold:   hold,
		Grant:  hold*int64(1000+rho)/int64(1000-rho) + int64(draw(k, 2)),
		Guard:  int64(1000 + rho + draw(k, 2)),
		Work:   int64(1 + draw(k, 1<<30)),
		Stages: stages, Needs: needs,
		Soak: 1 + draw(k, 20), Pass: draw(k, 1001),
	}
}

// bend changes one number of a plan, by a little or by much.
func bend(k *uint64, c *api.Config) {
	by := []int64{-1, 1, -2, 2, -1000, 1000, 1 << 30, -1 << 30, math.MinInt64, math.MaxInt64}[draw(k, 10)]
	numbers := []*int{&c.Nodes, &c.Slots, &c.Rho, &c.Soak, &c.Pass}
	for i := range c.Stages {
		numbers = append(numbers, &c.Stages[i])
	}
	for i := range c.Needs {
		numbers = append(numbers, &c.Needs[i])
	}
	times := []*int64{&c.Hold, &c.Grant, &c.Guard, &c.Work}
	switch at := draw(k, len(numbers)+len(times)+2); {
	case at < len(numbers):
		*numbers[at] += int(by)
	case at < len(numbers)+len(times):
		*times[at-len(numbers)] += by
	case at == len(numbers)+len(times):
		c.Stages = append(c.Stages, 0)
	default:
		c.Needs = append(c.Needs, 0)
	}
}

// P9.1: many plans, held against the chapter's words: some that may be, and some with one or two numbers changed.
func TestManyPlans(t *testing.T) {
	k := uint64(9)
	answers := map[api.Errno]int{}
	for i := range 60000 {
		c := drawn(&k)
		for range i % 3 {
			bend(&k, &c)
		}
		want := api.ErrConfig
		if told(c) {
			want = api.OK
		}
		if err := drift.Check(c); err != want {
			t.Fatalf("%+v: %v", c, err)
		}
		answers[want]++
	}
	if answers[api.OK] < 10000 || answers[api.ErrConfig] < 10000 {
		t.Error(answers)
	}
}
