package member_test

import (
	"slices"
	"testing"

	"shipwright/api"
	"shipwright/member"
)

// roomy is a list with spare room behind it, that holds members greater than all others; whole is all of it.
func roomy(l []api.Member) (list, whole []api.Member) {
	whole = slices.Concat(l, []api.Member{dead(1 << 50), dead(1 << 51), suspect(1 << 52), dead(1 << 53)})
	return whole[:len(l)], whole
}

// spoil changes all of a list, its spare room with it.
func spoil(l []api.Member) {
	l = l[:cap(l)]
	for i := range l {
		l[i] = api.Member{Inc: 77, State: 77}
	}
}

// pairs are lists, as long as one another, longer on either side, and without members.
func pairs() [][2][]api.Member {
	k := uint64(6)
	var l [][2][]api.Member
	for _, long := range []int{0, 1, 2, 3, 9, 40} {
		for _, short := range []int{0, 1, 2, 8, 9, 41} {
			l = append(l, [2][]api.Member{drawn(&k, long), drawn(&k, short)})
		}
	}
	return append(l, [2][]api.Member{nil, nil}, [2][]api.Member{nil, drawn(&k, 5)}, [2][]api.Member{drawn(&k, 5), nil})
}

// R4: All changes neither list, nor their spare room, and does not read that.
func TestNothingIsChanged(t *testing.T) {
	for _, p := range pairs() {
		a, wholeA := roomy(p[0])
		b, wholeB := roomy(p[1])
		wasA, wasB := slices.Clone(wholeA), slices.Clone(wholeB)
		mustAll(t, a, b, toldAll(p[0], p[1]))
		mustAll(t, a, p[1], toldAll(p[0], p[1]))
		mustAll(t, p[0], b, toldAll(p[0], p[1]))
		if !slices.Equal(wholeA, wasA) || !slices.Equal(wholeB, wasB) {
			t.Errorf("%v, %v: what was handed in is another thing by now", p[0], p[1])
		}
	}
}

// R4: what All answers is its own: it stays when the lists are changed later, and they stay when it is.
func TestNothingIsKept(t *testing.T) {
	for _, p := range pairs() {
		a, wholeA := roomy(p[0])
		b, wholeB := roomy(p[1])
		wasA, wasB := slices.Clone(wholeA), slices.Clone(wholeB)
		want := toldAll(a, b)
		first, second := member.All(a, b), member.All(a, b)
		spoil(first)
		if !slices.Equal(wholeA, wasA) || !slices.Equal(wholeB, wasB) || !slices.Equal(second, want) {
			t.Errorf("%v, %v: an answer shares memory with what was handed in, or with another answer", p[0], p[1])
		}
		spoil(wholeA)
		spoil(wholeB)
		if !slices.Equal(second, want) {
			t.Errorf("%v, %v: what was handed in was kept", p[0], p[1])
		}
	}
}

// R4: so it is where just one of the two has members, be the other one nil, or without elements, with room behind it or not.
func TestNoneSharesNothing(t *testing.T) {
	room := make([]api.Member, 9)
	for _, none := range [][]api.Member{nil, {}, room[:0], room[:0:0], room[9:]} {
		for _, left := range []bool{false, true} {
			l, whole := roomy([]api.Member{alive(3), dead(2)})
			was := slices.Clone(whole)
			a, b := none, l
			if left {
				a, b = l, none
			}
			answer := member.All(a, b)
			spoil(whole)
			if !slices.Equal(answer, was[:2]) {
				t.Errorf("%v: what was handed in was kept", answer)
			}
			copy(whole, was)
			spoil(answer)
			if !slices.Equal(whole, was) || !slices.Equal(room, make([]api.Member, 9)) {
				t.Error("an answer shares memory with what was handed in")
			}
		}
	}
}

// R4: a list that is handed in twice, or overlaps itself, stays as it is.
func TestAllWithItself(t *testing.T) {
	k := uint64(8)
	l, whole := roomy(drawn(&k, 9))
	was := slices.Clone(whole)
	mustAll(t, l, l, was[:9])
	mustAll(t, l[:6], l[3:], toldAll(was[:6], was[3:9]))
	mustAll(t, l[3:], whole, toldAll(was[3:9], was))
	spoil(member.All(l, l))
	spoil(member.All(l[:6], l[3:]))
	spoil(member.All(l[:0], l))
	if !slices.Equal(whole, was) {
		t.Error("what was handed in is another thing by now")
	}
}

// R5: a call answers by its arguments alone, whatever went ahead of it, and whatever the room behind them.
func TestAnswersHangOnArgumentsAlone(t *testing.T) {
	for range 3 {
		for _, p := range pairs() {
			want := toldAll(p[0], p[1])
			mustAll(t, slices.Clip(p[0]), slices.Clip(p[1]), want)
			mustAll(t, slices.Grow(slices.Clone(p[0]), 50), slices.Grow(slices.Clone(p[1]), 50), want)
			mustJoin(t, alive(1), suspect(1), suspect(1))
			mustSuspect(t, alive(1), suspect(1))
			mustBury(t, suspect(1), dead(1))
			mustSpeak(t, alive(1), suspect(1), alive(2))
			mustCheck(t, alive(-1), api.ErrArg)
		}
	}
}
