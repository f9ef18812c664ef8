package grant_test

import (
	"slices"
	"testing"

	"shipwright/api"
	"shipwright/grant"
)

// roomy is a node with spare room behind its grants, that holds others; whole is all of it.
func roomy(a api.Acceptor) (own api.Acceptor, whole []api.Grant) {
	whole = slices.Concat(a.Grants, []api.Grant{to(1, 91, 92), none(), to(2, 93, 94), to(-9, 95, 96)})
	return up(a.Boot, whole[:len(a.Grants)]...), whole
}

// spoil changes all of a list, its spare room with it.
func spoil(l []api.Grant) {
	l = l[:cap(l)]
	for i := range l {
		l[i] = to(77, 78, 79)
	}
}

// calls are all that answer a node: such as do something, and such as are refused for each reason.
func calls() map[string]func(c api.Config, a api.Acceptor) api.Acceptor {
	ask := func(slot, node int, nonce, now int64) func(c api.Config, a api.Acceptor) api.Acceptor {
		return func(c api.Config, a api.Acceptor) api.Acceptor {
			b, _ := grant.Ask(c, a, slot, node, nonce, now)
			return b
		}
	}
	free := func(slot, node int, nonce int64) func(c api.Config, a api.Acceptor) api.Acceptor {
		return func(c api.Config, a api.Acceptor) api.Acceptor { return grant.Free(c, a, slot, node, nonce) }
	}
	return map[string]func(c api.Config, a api.Acceptor) api.Acceptor{
		"Ask": ask(0, 2, 1, 50000), "Ask of the last": ask(1, 2, 1, 50000), "Ask again": ask(0, 1, 6, 30000),
		"Ask of no slot": ask(2, 2, 1, 50000), "Ask by no node": ask(0, 3, 1, 50000), "Ask too soon": ask(0, 2, 1, 5), "Ask for another's": ask(0, 2, 1, 30000), "Ask by no number": ask(0, 2, -1, 50000),
		"Free": free(0, 1, 5), "Free of the last": free(1, -1, 0), "Free by another": free(0, 2, 5), "Free of no slot": free(-1, 1, 5),
	}
}

// nodes are such as may be, and such as may not.
func nodes() []api.Acceptor {
	return []api.Acceptor{up(0, to(1, 5, 20000), none()), up(0, none(), to(2, 5, 40000)), up(0, to(1, 5, 20000)), up(0, to(1, 5, 20000), none(), none()), up(3), {}}
}

// R4: what is handed in is not changed, its spare room included, and that is not read.
func TestNothingIsChanged(t *testing.T) {
	for _, c := range []api.Config{plan(), {}} {
		for why, call := range calls() {
			for _, n := range nodes() {
				a, whole := roomy(n)
				was := slices.Clone(whole)
				mustBe(t, why, call(c, a), call(c, n))
				if grant.Holder(c, a, 0, 30000) != grant.Holder(c, n, 0, 30000) || !slices.Equal(whole, was) {
					t.Errorf("%s: what was handed in is another thing by now: %v instead of %v", why, whole, was)
				}
			}
		}
	}
}

// R4: what is answered is its own: it stays when what was handed in is changed later, and the other way round, spare room too; no two answers share any.
func TestNothingIsKept(t *testing.T) {
	for _, c := range []api.Config{plan(), {}} {
		for why, call := range calls() {
			for _, n := range nodes() {
				a, whole := roomy(n)
				was, want := slices.Clone(whole), call(c, n)
				first, second := call(c, a), call(c, a)
				spoil(first.Grants)
				_ = append(first.Grants, to(80, 81, 82))
				mustBe(t, why+", behind another one", second, want)
				if !slices.Equal(whole, was) {
					t.Errorf("%s: an answer shares memory with what was handed in", why)
				}
				spoil(whole)
				mustBe(t, why+", behind what was handed in", second, want)
			}
		}
	}
}

// R4: New's answers share no memory with one another.
func TestNewsAreApart(t *testing.T) {
	for _, c := range plans() {
		first, second := grant.New(c, 7), grant.New(c, 7)
		spoil(first.Grants)
		mustBe(t, "New", second, up(7, nones(c.Slots)...))
		mustBe(t, "New", grant.New(c, 7), up(7, nones(c.Slots)...))
	}
}

// R4: of a node from which several calls go on, each one's answer stays as it is.
func TestAnswersGoOnApart(t *testing.T) {
	c := plan()
	a := grant.New(c, 0)
	b := mustAsk(t, c, a, 0, 1, 1, 20000, true)
	d := mustAsk(t, c, b, 1, 2, 1, 20000, true)
	e := mustAsk(t, c, b, 1, 0, 1, 20000, true)
	f := mustFree(t, c, d, 0, 1, 1, true)
	mustBe(t, "New", a, up(0, none(), none()))
	mustBe(t, "first", b, up(0, to(1, 1, 20000), none()))
	mustBe(t, "second", d, up(0, to(1, 1, 20000), to(2, 1, 20000)))
	mustBe(t, "third", e, up(0, to(1, 1, 20000), to(0, 1, 20000)))
	mustBe(t, "freed", f, up(0, none(), to(2, 1, 20000)))
}

// R4: a plan's rows are neither changed, nor what lies in their spare room, nor kept: what is answered follows them.
func TestRowsStay(t *testing.T) {
	stages, needs := []int{0, 0, 1, 3, -1}, []int{2, 1, 9}
	c := varied(func(c *api.Config) { c.Stages, c.Needs = stages[:3], needs[:2] })
	n := up(0, to(1, 5, 20000), none())
	for range 3 {
		mustBe(t, "New", grant.New(c, 5), up(5, none(), none()))
		mustAsk(t, c, n, 1, 2, 1, 50000, true)
		mustFree(t, c, n, 0, 1, 5, true)
		mustHold(t, c, n, 0, 30000, 1)
		if !slices.Equal(stages, []int{0, 0, 1, 3, -1}) || !slices.Equal(needs, []int{2, 1, 9}) {
			t.Errorf("rows are other ones by now: %v %v", stages, needs)
		}
		needs[0] = 3
		mustBe(t, "New", grant.New(c, 5), api.Acceptor{})
		mustAsk(t, c, n, 1, 2, 1, 50000, false)
		mustFree(t, c, n, 0, 1, 5, false)
		mustHold(t, c, n, 0, 30000, -1)
		needs[0] = 2
	}
}

// R5: a call answers by its arguments alone, whatever went ahead of it, and whatever the room behind the grants.
func TestAnswersHangOnArgumentsAlone(t *testing.T) {
	c := plan()
	n := up(0, to(1, 5, 20000), none())
	for range 3 {
		for _, other := range plans() {
			for why, call := range calls() {
				want := call(c, n)
				call(other, n)
				grant.Ask(other, grant.New(other, 0), 0, 0, 9, other.Grant)
				mustBe(t, why, call(c, up(0, slices.Clip(slices.Clone(n.Grants))...)), want)
				mustBe(t, why, call(c, up(0, slices.Grow(slices.Clone(n.Grants), 50)...)), want)
			}
			mustAsk(t, c, n, 1, 2, 1, 50000, true)
			mustAsk(t, c, n, 0, 2, 1, 30000, false)
			mustFree(t, c, n, 0, 1, 5, true)
			mustHold(t, c, n, 0, 39999, 1)
			mustHold(t, c, n, 0, 40000, -1)
		}
	}
}
