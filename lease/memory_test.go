package lease_test

import (
	"slices"
	"testing"

	"shipwright/api"
	"shipwright/lease"
)

// roomy is a lease with spare room behind its granters, that holds others; whole is all of it.
func roomy(l api.Lease) (own api.Lease, whole []int) {
	whole = slices.Concat(l.From, []int{0, 1, 2, -9, 77})
	l.From = whole[:len(l.From)]
	return l, whole
}

// spoil changes all of a list, its spare room with it.
func spoil(l []int) {
	l = l[:cap(l)]
	for i := range l {
		l[i] = 78
	}
}

// calls are all that answer a lease: such as do something, and such as are refused for each reason.
func calls() map[string]func(c api.Config, l api.Lease) api.Lease {
	grant := func(node, slot int, nonce int64) func(c api.Config, l api.Lease) api.Lease {
		return func(c api.Config, l api.Lease) api.Lease { return lease.Grant(c, l, node, slot, nonce) }
	}
	return map[string]func(c api.Config, l api.Lease) api.Lease{
		"the first node": grant(0, 1, 7), "the last node": grant(2, 1, 7), "one more": grant(1, 1, 7),
		"no node": grant(3, 1, 7), "below 0": grant(-1, 1, 7), "another slot": grant(0, 0, 7), "another number": grant(0, 1, 8),
	}
}

// R4: what is handed in is not changed, its spare room included, and that is not read.
func TestNothingIsChanged(t *testing.T) {
	for _, c := range []api.Config{plan(), {}} {
		for _, x := range leases() {
			l, whole := roomy(x)
			was := slices.Clone(whole)
			for why, call := range calls() {
				mustBe(t, why, call(c, l), call(c, x))
			}
			for _, now := range []int64{4, 5, 7905, 10005} {
				mustTell(t, c, l, now, lease.Held(c, x, now), lease.Late(c, x, now), lease.Fits(c, x, now))
			}
			if !slices.Equal(whole, was) || !same(l, x) {
				t.Errorf("what was handed in is another thing by now: %v instead of %v", whole, was)
			}
		}
	}
}

// R4: what is answered is its own: it stays when what was handed in is changed later, and the other way round, spare room too; no two answers share any.
func TestNothingIsKept(t *testing.T) {
	for _, c := range []api.Config{plan(), {}} {
		for why, call := range calls() {
			for _, x := range leases() {
				l, whole := roomy(x)
				was, want := slices.Clone(whole), call(c, x)
				first, second := call(c, l), call(c, l)
				spoil(first.From)
				_ = append(first.From, 79)
				mustBe(t, why+", behind another one", second, want)
				if !slices.Equal(whole, was) {
					t.Errorf("%s: an answer shares memory with what was handed in", why)
				}
				spoil(whole)
				mustBe(t, why+", behind what was handed in", second, want)
			}
		}
	}
}

// R4: of a lease from which several calls go on, each one's answer stays as it is.
func TestAnswersGoOnApart(t *testing.T) {
	c := sized(9, 2)
	l := lease.Ask(1, 7, 5)
	var all []api.Lease
	for first := range 9 {
		one := mustGrant(t, c, l, first, 1, 7, true)
		for second := range 9 {
			if second != first {
				all = append(all, mustGrant(t, c, one, second, 1, 7, true))
			}
		}
	}
	for i, got := range all {
		first, second := i/8, i%8
		if second >= first {
			second++
		}
		mustBe(t, "Grant", got, from(first, second))
	}
	mustBe(t, "Ask", l, from())
}

// R4: Ask's answers share no memory with one another.
func TestAsksAreApart(t *testing.T) {
	first, second := lease.Ask(1, 7, 5), lease.Ask(1, 7, 5)
	spoil(append(first.From, 1))
	mustBe(t, "Ask", second, from())
	mustBe(t, "Ask", lease.Ask(1, 7, 5), from())
}

// R4: a plan's rows are neither changed, nor what lies in their spare room, nor kept: what is answered follows them.
func TestRowsStay(t *testing.T) {
	stages, needs := []int{0, 0, 1, 3, -1}, []int{2, 1, 9}
	c := varied(func(c *api.Config) { c.Stages, c.Needs = stages[:3], needs[:2] })
	for range 3 {
		mustGrant(t, c, from(1), 2, 1, 7, true)
		mustTell(t, c, from(1, 2), 5, true, false, true)
		mustTry(t, c, 2, 5, 1)
		if !slices.Equal(stages, []int{0, 0, 1, 3, -1}) || !slices.Equal(needs, []int{2, 1, 9}) {
			t.Errorf("rows are other ones by now: %v %v", stages, needs)
		}
		needs[0] = 3
		mustGrant(t, c, from(1), 2, 1, 7, false)
		mustTell(t, c, from(1, 2), 5, false, false, false)
		mustTry(t, c, 2, 5, 0)
		needs[0] = 2
	}
}

// R5: a call answers by its arguments alone, whatever went ahead of it, and whatever the room behind the granters.
func TestAnswersHangOnArgumentsAlone(t *testing.T) {
	c, x := plan(), from(1, -1, 2)
	for range 3 {
		for _, other := range append(plans(), api.Config{}) {
			for why, call := range calls() {
				want := call(c, x)
				call(other, x)
				call(other, lease.Ask(1, 7, 0))
				lease.Held(other, x, 5)
				lease.Slot(other, 1, 1)
				tight, wide := x, x
				tight.From, wide.From = slices.Clip(slices.Clone(x.From)), slices.Grow(slices.Clone(x.From), 50)
				mustBe(t, why, call(c, tight), want)
				mustBe(t, why, call(c, wide), want)
				mustTell(t, c, wide, 7904, true, false, true)
			}
			mustGrant(t, c, x, 0, 1, 7, true)
			mustGrant(t, c, x, 2, 1, 7, false)
			mustTell(t, c, x, 7905, true, false, false)
			mustTell(t, c, x, 10005, false, true, false)
			mustBe(t, "Ask", lease.Ask(1, 7, 5), from())
			mustTry(t, c, 2, 5, 1)
		}
	}
}
