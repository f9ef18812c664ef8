package grant_test

import (
	"math"
	"math/big"
	"testing"

	"shipwright/api"
	"shipwright/drift"
)

// toldPassed is what the chapters say of drift.Free, of a plan that may be, by numbers that know no end.
func toldPassed(c api.Config, granted, now int64) bool {
	for _, n := range []int64{granted, now} {
		if n < 0 || n > last {
			return false
		}
	}
	past := new(big.Int).Sub(big.NewInt(now), big.NewInt(granted))
	return past.Sign() >= 0 && past.Cmp(big.NewInt(c.Grant)) >= 0
}

// toldSlot tells whether a node may be, and a slot is one.
func toldSlot(c api.Config, a api.Acceptor, slot int) bool {
	if drift.Check(c) != api.OK || len(a.Grants) != c.Slots {
		return false
	}
	for i := 0; i <= c.Slots-1; i++ {
		if i == slot {
			return true
		}
	}
	return false
}

// toldAsk is what the chapter's words say of an Ask, in their order.
func toldAsk(c api.Config, a api.Acceptor, slot, node int, nonce, now int64) bool {
	switch {
	case !toldSlot(c, a, slot), node < 0, node > c.Nodes-1, nonce < 0, now < 0, !toldPassed(c, a.Boot, now):
		return false
	case a.Grants[slot].Node < 0:
		return true
	case a.Grants[slot].Node == node && a.Grants[slot].Nonce < nonce:
		return true
	}
	return toldPassed(c, a.Grants[slot].Since, now)
}

// toldFree is what the chapter's words say of a Free: whether the slot is granted to no one behind it.
func toldFree(c api.Config, a api.Acceptor, slot, node int, nonce int64) bool {
	return toldSlot(c, a, slot) && a.Grants[slot].Node == node && a.Grants[slot].Nonce == nonce
}

// toldHolder is what the chapter's words say of a Holder.
func toldHolder(c api.Config, a api.Acceptor, slot int, now int64) int {
	if !toldSlot(c, a, slot) || toldPassed(c, a.Grants[slot].Since, now) {
		return -1
	}
	return a.Grants[slot].Node
}

// P15.2: what stands here of the chapter's words tells of its examples what it says.
func TestTold(t *testing.T) {
	c := plan()
	a, b := up(0, none(), none()), up(0, to(1, 1, 20000), none())
	if toldAsk(c, a, 0, 1, 1, 19999) || !toldAsk(c, a, 0, 1, 1, 20000) || toldAsk(c, b, 0, 2, 1, 30000) || !toldAsk(c, b, 0, 2, 1, 40000) {
		t.Error("the examples are told otherwise")
	}
}

// drawnTime is a number around those that mean something to a Grant.
func drawnTime(k *uint64, grant int64) int64 {
	l := []int64{0, 0, 5, grant, 2 * grant, 2*grant + 5, 3 * grant, last - grant, last, math.MinInt64 + 3, math.MaxInt64 - 3}
	return l[draw(k, len(l))] + int64(draw(k, 5)-2)
}

// drawnNode is one of a plan, mostly.
func drawnNode(k *uint64, c api.Config) int {
	switch draw(k, 12) {
	case 0:
		return ends[draw(k, len(ends))]
	case 1:
		return c.Nodes
	}
	return draw(k, c.Nodes+1) - 1
}

// drawnNonce is a number by which one asks, near others.
func drawnNonce(k *uint64) int64 {
	if draw(k, 20) == 0 {
		return []int64{math.MinInt64, -1 << 32, 1 << 32, math.MaxInt64}[draw(k, 4)]
	}
	return int64(draw(k, 5) - 1)
}

// drawnAcceptor is a node of a plan, with as many grants as it has slots, mostly.
func drawnAcceptor(k *uint64, c api.Config) api.Acceptor {
	many := c.Slots
	if draw(k, 10) == 0 {
		many = max(0, many+draw(k, 3)-1)
	}
	a := up(drawnTime(k, c.Grant))
	if draw(k, 3) > 0 {
		a.Boot = 0
	}
	for range many {
		a.Grants = append(a.Grants, to(drawnNode(k, c), drawnNonce(k), drawnTime(k, c.Grant)))
	}
	return a
}

// P15.2, P15.3: calls of all kinds, of nodes of all kinds, held against the chapter's words.
func TestAsTold(t *testing.T) {
	k := uint64(15)
	var asked, freed, held int
	for range 6000 {
		for _, c := range plans() {
			a := drawnAcceptor(&k, c)
			slot, node, nonce, now := draw(&k, c.Slots+2)-1, drawnNode(&k, c), drawnNonce(&k), drawnTime(&k, c.Grant)
			ask, free, holder := toldAsk(c, a, slot, node, nonce, now), toldFree(c, a, slot, node, nonce), toldHolder(c, a, slot, now)
			mustAsk(t, c, a, slot, node, nonce, now, ask)
			mustFree(t, c, a, slot, node, nonce, free)
			mustHold(t, c, a, slot, now, holder)
			asked, freed, held = asked+count(ask), freed+count(free), held+count(holder >= 0)
		}
	}
	if asked < 2000 || freed < 500 || held < 10000 {
		t.Errorf("just %d are granted, %d freed, %d held", asked, freed, held)
	}
}

// count is 1 of what is so.
func count(is bool) int {
	if is {
		return 1
	}
	return 0
}

// P15.2, P15.3: each of many grants of a slot, each number and time that is asked by, held against the chapter's words.
func TestAllAsTold(t *testing.T) {
	c := plan()
	times := []int64{math.MinInt64, -1, 0, 1, 19999, 20000, 20001, 39999, 40000, 40001, last - 1, last, last + 1, math.MaxInt64}
	for _, boot := range []int64{-1, 0, 1, 20000} {
		for _, has := range []int{math.MinInt, -1, 0, 1, 2, 3} {
			for _, had := range []int64{-1, 0, 1, math.MaxInt64} {
				for _, since := range times {
					a := up(boot, to(1, 1, 20000), to(has, had, since))
					for node := -1; node <= 3; node++ {
						for _, nonce := range []int64{-1, 0, 1, 2, math.MaxInt64} {
							for _, now := range times {
								mustAsk(t, c, a, 1, node, nonce, now, toldAsk(c, a, 1, node, nonce, now))
							}
							mustFree(t, c, a, 1, node, nonce, toldFree(c, a, 1, node, nonce))
						}
					}
					for _, now := range times {
						mustHold(t, c, a, 1, now, toldHolder(c, a, 1, now))
					}
				}
			}
		}
	}
}
