package lease_test

import (
	"math"
	"slices"
	"testing"

	"shipwright/api"
	"shipwright/drift"
	"shipwright/grant"
	"shipwright/lease"
)

// heldLeases are all leases of a slot that are held, of those that each set of a plan's nodes granted.
func heldLeases(t *testing.T, c api.Config) []api.Lease {
	var all []api.Lease
	for set := range 1 << c.Nodes {
		l := lease.Ask(0, int64(set), 5)
		for node := range c.Nodes {
			if set>>node&1 == 1 {
				l = mustGrant(t, c, l, node, 0, int64(set), true)
			}
		}
		if lease.Held(c, l, 5) {
			all = append(all, l)
		}
	}
	return all
}

// inBoth tells whether some node of a plan granted both of two leases.
func inBoth(c api.Config, a, b api.Lease) bool {
	for node := range c.Nodes {
		if slices.Contains(a.From, node) && slices.Contains(b.From, node) {
			return true
		}
	}
	return false
}

// P16.4: of each two leases of one slot that are held some node granted both, of each number of nodes; and just half of them are enough to hold none.
func TestSomeNodeGrantedBoth(t *testing.T) {
	for nodes := 1; nodes <= api.MaxNodes; nodes++ {
		c := sized(nodes, 1)
		all := heldLeases(t, c)
		for i, a := range all {
			for _, b := range all[i:] {
				if !inBoth(c, a, b) {
					t.Fatalf("%d nodes: %v and %v are both held", nodes, a.From, b.From)
				}
			}
		}
		// Of an odd number of nodes, of each set of them either it or all others hold.
		if many := len(all); nodes%2 == 1 && many != 1<<(nodes-1) || many == 0 {
			t.Errorf("%d nodes: %d are held", nodes, many)
		}
	}
}

// P16.4: so it is of leases made by hand, with members twice, and such as are none.
func TestSomeNodeGrantedBothOfHandMade(t *testing.T) {
	for _, c := range []api.Config{sized(1, 1), sized(2, 1), plan(), sized(4, 1)} {
		var all []api.Lease
		for _, list := range lists(4, []int{-1, 0, 1, 2, 3, 4}) {
			if l := from(list...); lease.Held(c, l, 5) {
				all = append(all, l)
			}
		}
		for i, a := range all {
			for _, b := range all[i:] {
				if !inBoth(c, a, b) {
					t.Fatalf("%d nodes: %v and %v are both held", c.Nodes, a.From, b.From)
				}
			}
		}
		if len(all) < 20 {
			t.Errorf("%d nodes: just %d are held", c.Nodes, len(all))
		}
	}
}

// pasts are how long ago one may have asked for a lease: around all that means something to it, and each hundredth part of Hold.
func pasts(c api.Config) []int64 {
	var l []int64
	for _, edge := range []int64{0, c.Hold - c.Guard - c.Work, c.Hold - c.Guard, c.Hold - c.Work, c.Hold, c.Guard, c.Work, c.Grant} {
		for more := int64(-5); more <= 5; more++ {
			l = append(l, edge+more)
		}
	}
	for part := range int64(100) {
		l = append(l, c.Hold*part/100)
	}
	return l
}

// P16.4: what fits is not late, at any time, of whatever plan; nor is it Work behind that, by the node's own clock.
func TestWhatFitsIsNotLate(t *testing.T) {
	for _, c := range append(plans(), edges()...) {
		for _, asked := range []int64{0, 5, last - 4000} {
			l, fits := byMajority(c, asked), 0
			for _, past := range pasts(c) {
				now := asked + past
				if !lease.Fits(c, l, now) {
					continue
				}
				fits++
				if lease.Late(c, l, now) || !lease.Held(c, l, now) || now+c.Work <= last && lease.Late(c, l, now+c.Work) {
					t.Errorf("%+v: at %d it fits, and is late", c, now)
				}
			}
			if fits == 0 && c.Hold > c.Guard+c.Work {
				t.Errorf("%+v: asked at %d nothing fits", c, asked)
			}
		}
	}
}

// P16.4: so it is of each Guard and each Work of a short Hold, and of leases that are not held.
func TestWhatFitsIsNotLateOfEachPlan(t *testing.T) {
	for hold := int64(1000); hold <= 1012; hold++ {
		for guard := int64(1000); guard <= 1013; guard++ {
			for work := int64(1); work <= 13; work++ {
				c := varied(func(c *api.Config) { c.Rho, c.Hold, c.Guard, c.Work = 0, hold, guard, work })
				for past := int64(-1); past <= 13; past++ {
					for _, nodes := range [][]int{{0, 1}, {0, 0}} {
						l := since(7, nodes...)
						if lease.Fits(c, l, 7+past) && lease.Late(c, l, 7+past) {
							t.Errorf("%+v: %d behind its asking %v fits, and is late", c, past, nodes)
						}
					}
				}
			}
		}
	}
}

// word is what one node tells another one: that it asks for a slot, that it granted one, or that it gives one back.
type word struct {
	kind, from, to, slot int
	nonce                int64
}

// What a word tells.
const (
	asks = iota
	granted
	frees
)

// story is a fleet of nodes that ask one another for slots, by clocks that go wrong, by words that are lost, late, and told twice, and that go down.
type story struct {
	c      api.Config
	k      uint64
	now    []int64
	own    []api.Acceptor
	leases []api.Lease
	asking []bool
	words  []word
	nonce  int64
	held   int // how often a lease was held behind a tick
}

// begin is a story of a plan.
func begin(c api.Config, k uint64) *story {
	s := &story{c: c, k: k, now: make([]int64, c.Nodes), leases: make([]api.Lease, c.Nodes), asking: make([]bool, c.Nodes)}
	for range c.Nodes {
		s.own = append(s.own, grant.New(c, 0))
	}
	return s
}

// tick lets all clocks go on, each within the drift: mostly each as slowly or as fast as it always does.
func (s *story) tick() {
	for node := range s.now {
		told := []int{math.MinInt, math.MaxInt, 1000}[node%3]
		if draw(&s.k, 5) == 0 {
			told = draw(&s.k, 2000)
		}
		s.now[node] += drift.Gain(s.c, told)
	}
}

// tell lets a node tell all nodes, itself too.
func (s *story) tell(kind, node int) {
	for to := range s.c.Nodes {
		s.words = append(s.words, word{kind, node, to, s.leases[node].Slot, s.leases[node].Nonce})
	}
}

// ask lets a node ask for its next slot.
func (s *story) ask(node int) {
	s.nonce++
	s.leases[node] = lease.Ask(lease.Slot(s.c, node, s.nonce), s.nonce, s.now[node])
	s.asking[node] = true
	s.tell(asks, node)
}

// free lets a node give back what it asks for.
func (s *story) free(node int) {
	s.asking[node] = false
	s.tell(frees, node)
}

// crash lets a node go down, and come up at once, with nothing that it knew.
func (s *story) crash(node int) {
	s.now[node] = int64(draw(&s.k, 2)) * s.now[node]
	s.own[node] = grant.New(s.c, s.now[node])
	s.asking[node] = false
}

// hear lets one of the words come, that may stay to come once more.
func (s *story) hear() {
	if len(s.words) == 0 {
		return
	}
	i := draw(&s.k, len(s.words))
	w := s.words[i]
	if draw(&s.k, 20) > 0 {
		s.words = slices.Delete(s.words, i, i+1)
	}
	switch w.kind {
	case asks:
		a, is := grant.Ask(s.c, s.own[w.to], w.slot, w.from, w.nonce, s.now[w.to])
		s.own[w.to] = a
		if is {
			s.words = append(s.words, word{granted, w.to, w.from, w.slot, w.nonce})
		}
	case granted:
		if s.asking[w.to] {
			s.leases[w.to] = lease.Grant(s.c, s.leases[w.to], w.from, w.slot, w.nonce)
		}
	case frees:
		s.own[w.to] = grant.Free(s.c, s.own[w.to], w.slot, w.from, w.nonce)
	}
}

// look tells of a slot that two nodes hold at once.
func (s *story) look(t *testing.T) {
	t.Helper()
	holder := map[int]int{}
	for node, l := range s.leases {
		if !s.asking[node] || !lease.Held(s.c, l, s.now[node]) {
			continue
		}
		s.held++
		if other, is := holder[l.Slot]; is {
			t.Fatalf("%d and %d hold the slot %d, by %+v", other, node, l.Slot, s.c)
		}
		holder[l.Slot] = node
	}
}

// P16.4, with P9.4 and P15.4: as who granted a slot grants it to no other one, no two nodes hold one at once, whatever clocks do, and words, and whoever goes down.
func TestNoTwoHoldOneSlot(t *testing.T) {
	for i, c := range []api.Config{sized(1, 1), sized(2, 1), plan(), sized(4, 2), sized(9, 3), drifting(0), drifting(api.MaxRho)} {
		s := begin(c, uint64(i))
		for range 40000 {
			node := draw(&s.k, c.Nodes)
			switch x := draw(&s.k, 100); {
			case x < 10:
				s.tick()
			case x < 13 && !s.asking[node], x == 13:
				s.ask(node)
			case x < 15 && s.asking[node]:
				s.free(node)
			case x == 15 && draw(&s.k, 30) == 0:
				s.crash(node)
			case x == 16 && len(s.words) > 0:
				// What is lost.
				s.words = s.words[1:]
			default:
				s.hear()
			}
			s.look(t)
		}
		if s.held < 1000 {
			t.Errorf("%+v: one was held just %d times", c, s.held)
		}
	}
}
