package member_test

import (
	"math"
	"slices"
	"testing"

	"shipwright/api"
	"shipwright/member"
)

// incs are numbers at the ends of their type, or near those that mean something; states are those that may be, and others.
var (
	incs   = []int64{math.MinInt64, math.MinInt64 + 1, -1 << 40, -2, -1, 0, 1, 2, 3, 1 << 31, 1 << 32, api.MaxInc - 2, api.MaxInc - 1, api.MaxInc, api.MaxInc + 1, api.MaxInc + 2, 1 << 41, math.MaxInt64 - 1, math.MaxInt64}
	states = []int{math.MinInt, -256, -2, -1, 0, 1, 2, 3, 4, 256, 257, 1 << 32, 1<<32 + 1, math.MaxInt}
)

// The members of which examples tell.
func alive(inc int64) api.Member   { return api.Member{Inc: inc, State: api.MAlive} }
func suspect(inc int64) api.Member { return api.Member{Inc: inc, State: api.MSuspect} }
func dead(inc int64) api.Member    { return api.Member{Inc: inc, State: api.MDead} }

// members are all of incs in all of states.
func members() []api.Member {
	var l []api.Member
	for _, inc := range incs {
		for _, state := range states {
			l = append(l, api.Member{Inc: inc, State: state})
		}
	}
	return l
}

// mayBe tells in the chapter's words whether a member may be.
func mayBe(m api.Member) bool {
	return 0 <= m.Inc && m.Inc <= 1<<40 && 0 <= m.State && m.State <= 2
}

// draw is the next one of numbers that look like chance.
func draw(k *uint64, below int) int {
	*k = *k*6364136223846793005 + 1442695040888963407
	return int(*k >> 33 % uint64(below))
}

// drawn is a list of so many members, that are often near one another.
func drawn(k *uint64, many int) []api.Member {
	l := make([]api.Member, many)
	for i := range l {
		l[i] = api.Member{Inc: int64(draw(k, 3)), State: draw(k, 3)}
		if draw(k, 4) == 0 {
			l[i] = api.Member{Inc: incs[draw(k, len(incs))], State: states[draw(k, len(states))]}
		}
	}
	return l
}

// mustCheck tells of a Check that answers something else.
func mustCheck(t *testing.T, m api.Member, want api.Errno) {
	t.Helper()
	if got := member.Check(m); got != want {
		t.Errorf("Check(%v): %d, want %d", m, got, want)
	}
}

// mustJoin tells of a Join that answers something else.
func mustJoin(t *testing.T, a, b, want api.Member) {
	t.Helper()
	if got := member.Join(a, b); got != want {
		t.Errorf("Join(%v, %v): %v, want %v", a, b, got, want)
	}
}

// mustAll tells of an All that answers something else.
func mustAll(t *testing.T, a, b, want []api.Member) {
	t.Helper()
	if got := member.All(a, b); !slices.Equal(got, want) {
		t.Errorf("All(%v, %v): %v, want %v", a, b, got, want)
	}
}

// mustSuspect tells of a Suspect that answers something else.
func mustSuspect(t *testing.T, m, want api.Member) {
	t.Helper()
	if got := member.Suspect(m); got != want {
		t.Errorf("Suspect(%v): %v, want %v", m, got, want)
	}
}

// mustBury tells of a Bury that answers something else.
func mustBury(t *testing.T, m, want api.Member) {
	t.Helper()
	if got := member.Bury(m); got != want {
		t.Errorf("Bury(%v): %v, want %v", m, got, want)
	}
}

// mustSpeak tells of a Speak that answers something else.
func mustSpeak(t *testing.T, own, heard, want api.Member) {
	t.Helper()
	if got := member.Speak(own, heard); got != want {
		t.Errorf("Speak(%v, %v): %v, want %v", own, heard, got, want)
	}
}

// P13.2, P13.3: the chapter's examples.
func TestExamples(t *testing.T) {
	mustJoin(t, alive(1), suspect(1), suspect(1))
	mustJoin(t, alive(2), dead(1), alive(2))
	mustSpeak(t, alive(1), suspect(1), alive(2))
}

// P13.1: the states' numbers, and the greatest Inc.
func TestConstants(t *testing.T) {
	if api.MAlive != 0 || api.MSuspect != 1 || api.MDead != 2 || int64(api.MaxInc) != 1099511627776 {
		t.Error(api.MAlive, api.MSuspect, api.MDead, int64(api.MaxInc))
	}
}

// P13.1: an Inc of 0 to 2^40, whatever the state.
func TestCheckInc(t *testing.T) {
	for _, state := range []int{0, 1, 2} {
		for _, inc := range []int64{0, 1, 1 << 20, 1<<40 - 1, 1 << 40} {
			mustCheck(t, api.Member{Inc: inc, State: state}, api.OK)
		}
		for _, inc := range []int64{-1, -2, -1 << 40, 1<<40 + 1, 1<<40 + 2, 1 << 41, 1 << 62, math.MinInt64, math.MaxInt64} {
			mustCheck(t, api.Member{Inc: inc, State: state}, api.ErrArg)
		}
	}
}

// P13.1: a State of 0 to 2, whatever the Inc.
func TestCheckState(t *testing.T) {
	for _, inc := range []int64{0, 1, 7, 1 << 40} {
		for _, state := range []int{0, 1, 2} {
			mustCheck(t, api.Member{Inc: inc, State: state}, api.OK)
		}
		for _, state := range []int{-1, -2, -256, 3, 4, 256, 257, 1 << 32, 1<<32 + 1, math.MinInt, math.MaxInt} {
			mustCheck(t, api.Member{Inc: inc, State: state}, api.ErrArg)
		}
	}
}

// P13.1: each Inc with each state, in the chapter's words: both must be well.
func TestCheckBoth(t *testing.T) {
	well := 0
	for _, m := range members() {
		want := api.ErrArg
		if mayBe(m) {
			want = api.OK
			well++
		}
		mustCheck(t, m, want)
	}
	if well < 20 || well > 40 {
		t.Errorf("%d may be", well)
	}
}
