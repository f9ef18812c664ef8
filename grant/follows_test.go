package grant_test

import (
	"testing"

	"shipwright/api"
	"shipwright/drift"
	"shipwright/grant"
)

// story is a node that is asked for slots, and told that they are free, at random, life for life, and what it granted. The time that a grant bears here is the time that went by in all: a life's own clock may begin anew.
type story struct {
	c      api.Config
	k      uint64
	a      api.Acceptor
	now    int64         // by the clock of this life
	all    int64         // what went by in all lives
	had    [][]api.Grant // of each slot all that was granted and is not given back, nor granted anew to the same node
	life   []int         // of each slot how many of these an earlier life granted
	lives  int
	grants int
	others int // how often a slot went from one node to another one, that was not given back
}

// begin is a story of a plan.
func begin(c api.Config, k uint64) *story {
	return &story{c: c, k: k, a: grant.New(c, 0), had: make([][]api.Grant, c.Slots), life: make([]int, c.Slots)}
}

// tick lets time go on, by a clock within the drift, mostly by a little.
func (s *story) tick() {
	gain := drift.Gain(s.c, draw(&s.k, 2000))
	if draw(&s.k, 40) == 0 {
		gain = s.c.Grant/2 + int64(draw(&s.k, int(s.c.Grant)))
	}
	s.now += gain
	s.all += gain
}

// crash lets a new life begin, that knows nothing of what was granted; its clock begins anew, or goes on.
func (s *story) crash() {
	if draw(&s.k, 2) == 0 {
		s.now = 0
	}
	s.a = grant.New(s.c, s.now)
	for slot := range s.had {
		s.life[slot] = len(s.had[slot])
	}
	s.lives++
}

// ask lets one ask for a slot, and tells of another one to whom that is granted and not free.
func (s *story) ask(t *testing.T) {
	t.Helper()
	slot, node, nonce := draw(&s.k, s.c.Slots), draw(&s.k, s.c.Nodes), int64(draw(&s.k, 6))
	a, is := grant.Ask(s.c, s.a, slot, node, nonce, s.now)
	s.a = a
	if !is {
		return
	}
	s.grants++
	for _, g := range s.had[slot] {
		if g.Node == node {
			continue
		}
		s.others++
		if s.all-g.Since < s.c.Grant {
			t.Errorf("slot %d is granted to %d behind %d, and was to %d behind %d, life %d", slot, node, s.all, g.Node, g.Since, s.lives)
		}
	}
	s.had[slot] = append(s.had[slot][:s.life[slot]], to(node, nonce, s.all))
}

// free tells that a slot is not used any more: mostly by whom it was granted to in this life.
func (s *story) free() {
	slot := draw(&s.k, s.c.Slots)
	node, nonce := draw(&s.k, s.c.Nodes), int64(draw(&s.k, 6))
	mine := s.had[slot][s.life[slot]:]
	if len(mine) > 0 && draw(&s.k, 3) == 0 {
		node, nonce = mine[0].Node, mine[0].Nonce
	}
	s.a = grant.Free(s.c, s.a, slot, node, nonce)
	if len(mine) > 0 && mine[0].Node == node && mine[0].Nonce == nonce {
		s.had[slot] = s.had[slot][:s.life[slot]]
	}
}

// P15.4: whatever is asked and freed, in whatever lives, no slot is granted to another one than has it, before a Grant went by, or it was freed.
func TestNoSlotIsGrantedTwice(t *testing.T) {
	for i, c := range []api.Config{plan(), sized(2, 1), sized(9, 3), drifting(0), drifting(api.MaxRho)} {
		s := begin(c, uint64(i))
		for range 40000 {
			switch draw(&s.k, 16) {
			case 0:
				s.free()
			case 1, 2, 3:
				s.tick()
			case 4:
				if draw(&s.k, 60) == 0 {
					s.crash()
				}
			default:
				s.ask(t)
			}
		}
		if s.lives < 20 || s.grants < 500 || s.others < 100 {
			t.Errorf("%+v: just %d lives, %d grants, %d to others", c, s.lives, s.grants, s.others)
		}
	}
}

// P15.4: whoever asks, by whatever number, and frees what is not theirs, a slot is one's to the last time at which it is not free.
func TestHeldToTheEnd(t *testing.T) {
	for _, c := range []api.Config{plan(), sized(9, 9), drifting(0), drifting(api.MaxRho)} {
		a := mustAsk(t, c, grant.New(c, 0), 0, 1, 5, c.Grant, true)
		for _, now := range []int64{c.Grant, c.Grant + 1, c.Grant + c.Hold, 2*c.Grant - 1} {
			for node := range c.Nodes {
				for nonce := range int64(10) {
					if node != 1 {
						mustAsk(t, c, a, 0, node, nonce, now, false)
					}
					if node != 1 || nonce != 5 {
						mustFree(t, c, a, 0, node, nonce, false)
					}
				}
			}
			mustHold(t, c, a, 0, now, 1)
		}
		mustAsk(t, c, a, 0, 0, 0, 2*c.Grant, true)
	}
}

// P15.4: who asks again has it from then on: it is not free a Grant behind the first time.
func TestHeldFromTheLastAsking(t *testing.T) {
	c := plan()
	a := mustAsk(t, c, grant.New(c, 0), 0, 1, 1, 20000, true)
	a = mustAsk(t, c, a, 0, 1, 2, 35000, true)
	mustAsk(t, c, a, 0, 2, 1, 40000, false)
	mustHold(t, c, a, 0, 40000, 1)
	mustAsk(t, c, a, 0, 2, 1, 54999, false)
	mustAsk(t, c, a, 0, 2, 1, 55000, true)
}

// P15.4: what an earlier life granted, in its last moment, holds a new one back, be its clock the same one, or one that begins anew.
func TestEarlierLivesHoldBack(t *testing.T) {
	for _, c := range []api.Config{plan(), sized(9, 9), drifting(0), drifting(api.MaxRho)} {
		for _, at := range []int64{c.Grant, c.Grant + 1, 7 * c.Grant, 1 << 40} {
			mustAsk(t, c, grant.New(c, 0), 0, 1, 1, at, true)
			for _, boot := range []int64{0, at} {
				a := grant.New(c, boot)
				for _, past := range []int64{0, 1, c.Hold, c.Grant - 1} {
					for node := range c.Nodes {
						mustAsk(t, c, a, 0, node, 2, boot+past, false)
					}
				}
				for node := range c.Nodes {
					mustAsk(t, c, a, 0, node, 0, boot+c.Grant, true)
				}
			}
		}
	}
}

// P15.4: a life that follows another one at once waits as long as the first one of them.
func TestEachLifeWaits(t *testing.T) {
	c := plan()
	now := int64(20000)
	mustAsk(t, c, grant.New(c, 0), 0, 1, 1, now, true)
	for range 50 {
		a := grant.New(c, now)
		mustAsk(t, c, a, 0, 2, 1, now+19999, false)
		now += 19999
	}
	mustAsk(t, c, grant.New(c, now), 0, 2, 1, now+20000, true)
}

// P15.4, with P9.4: while a lease holds by the slowest clock of one who asked for it, the slot goes to no other one by the fastest clock of who granted it behind that.
func TestLeasesEndAheadOfGrants(t *testing.T) {
	for _, rho := range []int{0, 1, 100, api.MaxRho} {
		c := drifting(rho)
		slow, fast := int64(1000-rho), int64(1000+rho)
		a := mustAsk(t, c, grant.New(c, 0), 0, 1, 1, c.Grant, true)
		for ticks := int64(0); drift.Holds(c, 0, ticks*slow); ticks++ {
			mustAsk(t, c, a, 0, 2, 1, c.Grant+ticks*fast, false)
			mustHold(t, c, a, 0, c.Grant+ticks*fast, 1)
		}
	}
}
