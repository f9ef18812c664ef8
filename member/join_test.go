package member_test

import (
	"math"
	"slices"
	"testing"

	"shipwright/api"
	"shipwright/member"
)

// toldJoin is Join in the chapter's words.
func toldJoin(a, b api.Member) api.Member {
	switch {
	case a.Inc > b.Inc:
		return a
	case a.Inc < b.Inc:
		return b
	case a.State > b.State:
		return a
	}
	return b
}

// toldAll is All in the chapter's words, one member behind the other.
func toldAll(a, b []api.Member) []api.Member {
	var l []api.Member
	for i := 0; i < len(a) || i < len(b); i++ {
		switch {
		case i >= len(b):
			l = append(l, a[i])
		case i >= len(a):
			l = append(l, b[i])
		default:
			l = append(l, toldJoin(a[i], b[i]))
		}
	}
	return l
}

// mustJoinTo tells of two that are joined to something else, either way round.
func mustJoinTo(t *testing.T, a, b, want api.Member) {
	t.Helper()
	mustJoin(t, a, b, want)
	mustJoin(t, b, a, want)
}

// mustAllTo tells of two lists that are joined to something else, either way round.
func mustAllTo(t *testing.T, a, b, want []api.Member) {
	t.Helper()
	mustAll(t, a, b, want)
	mustAll(t, b, a, want)
}

// P13.2: the greater Inc, even with the State against it.
func TestJoinByInc(t *testing.T) {
	for _, less := range []api.Member{alive(4), suspect(4), dead(4), alive(0), dead(0)} {
		for _, greater := range []api.Member{alive(5), suspect(5), dead(5), alive(api.MaxInc), suspect(api.MaxInc)} {
			mustJoinTo(t, less, greater, greater)
		}
	}
	mustJoinTo(t, dead(api.MaxInc-1), alive(api.MaxInc), alive(api.MaxInc))
	mustJoinTo(t, dead(0), alive(1), alive(1))
}

// P13.2: of the same Inc the greater State.
func TestJoinByState(t *testing.T) {
	for _, inc := range []int64{0, 1, 2, 1 << 33, api.MaxInc} {
		mustJoinTo(t, alive(inc), suspect(inc), suspect(inc))
		mustJoinTo(t, suspect(inc), dead(inc), dead(inc))
		mustJoinTo(t, alive(inc), dead(inc), dead(inc))
	}
}

// P13.2: what is joined to itself is itself.
func TestJoinWithItself(t *testing.T) {
	for _, m := range members() {
		mustJoin(t, m, m, m)
	}
}

// P13.2, R1: members that may not be are joined by their numbers, too, whatever these are.
func TestJoinWhatMayNotBe(t *testing.T) {
	odd := func(inc int64, state int) api.Member { return api.Member{Inc: inc, State: state} }
	mustJoinTo(t, odd(-1, 2), alive(0), alive(0))
	mustJoinTo(t, odd(math.MinInt64, 2), odd(math.MaxInt64, 0), odd(math.MaxInt64, 0))
	mustJoinTo(t, odd(math.MinInt64, 0), odd(-1, 0), odd(-1, 0))
	mustJoinTo(t, dead(api.MaxInc), odd(api.MaxInc+1, 0), odd(api.MaxInc+1, 0))
	mustJoinTo(t, odd(3, 3), dead(3), odd(3, 3))
	mustJoinTo(t, odd(3, -1), alive(3), alive(3))
	mustJoinTo(t, odd(3, math.MinInt), odd(3, math.MaxInt), odd(3, math.MaxInt))
	mustJoinTo(t, odd(3, math.MaxInt), alive(4), alive(4))
}

// P13.2: of all pairs of members, those that may not be with them, the one that the chapter's words say.
func TestJoinOfAllPairs(t *testing.T) {
	for _, a := range members() {
		for _, b := range members() {
			mustJoin(t, a, b, toldJoin(a, b))
		}
	}
}

// P13.2: of none on both sides there is none; of none on one side it is the other one.
func TestAllOfNone(t *testing.T) {
	empty := []api.Member{}
	full := []api.Member{suspect(2), alive(0), dead(api.MaxInc)}
	for _, none := range [][]api.Member{nil, empty, full[:0], full[3:]} {
		for _, other := range [][]api.Member{nil, empty, full[:0]} {
			mustAllTo(t, none, other, nil)
		}
		mustAllTo(t, none, full, full)
		mustAllTo(t, none, full[1:2], full[1:2])
	}
}

// P13.2: member by member, the greater one now on the one side, now on the other.
func TestAllMemberByMember(t *testing.T) {
	a := []api.Member{alive(1), dead(2), suspect(0), alive(9), suspect(3)}
	b := []api.Member{suspect(1), alive(3), alive(0), dead(8), suspect(3)}
	mustAllTo(t, a, b, []api.Member{suspect(1), alive(3), suspect(0), alive(9), suspect(3)})
	mustAllTo(t, a, a, a)
	mustAllTo(t, a[:1], b[:1], b[:1])
}

// P13.2: members change places neither with one another, nor with those of another place.
func TestAllKeepsPlaces(t *testing.T) {
	a := []api.Member{alive(5), alive(0), alive(4), alive(0)}
	b := []api.Member{alive(0), alive(6), alive(0), alive(3)}
	mustAllTo(t, a, b, []api.Member{alive(5), alive(6), alive(4), alive(3)})
}

// P13.2: a list that is one longer, or many, keeps what the other one has no more.
func TestAllOfUnlikeLengths(t *testing.T) {
	a := []api.Member{alive(1), dead(2), suspect(7)}
	b := []api.Member{suspect(1), alive(3)}
	mustAllTo(t, a, b, []api.Member{suspect(1), alive(3), suspect(7)})
	mustAllTo(t, a, b[:1], []api.Member{suspect(1), dead(2), suspect(7)})
	mustAllTo(t, b, a[:1], []api.Member{suspect(1), alive(3)})
	mustAllTo(t, a[2:], b, []api.Member{suspect(7), alive(3)})
	// Empty members at the end of a list are members all the same.
	mustAllTo(t, b, make([]api.Member, 4), []api.Member{suspect(1), alive(3), {}, {}})
}

// P13.2, R1: members that may not be are joined in lists, too, and stay where there is no other one.
func TestAllOfWhatMayNotBe(t *testing.T) {
	l := members()
	other := slices.Clone(l)
	slices.Reverse(other)
	mustAllTo(t, l, other, toldAll(l, other))
	mustAllTo(t, l, other[:50], toldAll(l, other[:50]))
	mustAllTo(t, l, nil, l)
	mustAllTo(t, []api.Member{{Inc: -1, State: -1}}, []api.Member{{Inc: -2, State: 7}, {Inc: math.MinInt64, State: 9}}, []api.Member{{Inc: -1, State: -1}, {Inc: math.MinInt64, State: 9}})
}

// P13.2: lists of all lengths up to twelve, against each other, in the chapter's words.
func TestAllOfManyLists(t *testing.T) {
	k := uint64(13)
	for range 20 {
		for long := range 13 {
			for short := range 13 {
				a, b := drawn(&k, long), drawn(&k, short)
				mustAll(t, a, b, toldAll(a, b))
			}
		}
	}
}

// R1: lists far longer than a plan has nodes are joined in good time.
func TestVeryLongLists(t *testing.T) {
	k := uint64(14)
	a, b := drawn(&k, 300000), drawn(&k, 200000)
	if !slices.Equal(member.All(a, b), toldAll(a, b)) || !slices.Equal(member.All(b, a), toldAll(b, a)) {
		t.Error("long lists are joined otherwise")
	}
}
