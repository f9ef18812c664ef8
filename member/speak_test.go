package member_test

import (
	"math"
	"testing"

	"shipwright/api"
	"shipwright/member"
)

// toldSpeak is Speak in the chapter's words.
func toldSpeak(own, heard api.Member) api.Member {
	if heard.Inc < own.Inc || heard.State == 0 {
		return own
	}
	if heard.Inc >= 1<<40 {
		return api.Member{Inc: heard.Inc, State: 0}
	}
	return api.Member{Inc: heard.Inc + 1, State: 0}
}

// P13.3: who is alive is suspected; whoever is anything else stays so, and so does how often each spoke up.
func TestSuspect(t *testing.T) {
	for _, inc := range incs {
		mustSuspect(t, alive(inc), suspect(inc))
		mustSuspect(t, suspect(inc), suspect(inc))
		mustSuspect(t, dead(inc), dead(inc))
	}
}

// P13.3: who is suspected is dead from then on; whoever is anything else stays so: none is buried alive.
func TestBury(t *testing.T) {
	for _, inc := range incs {
		mustBury(t, alive(inc), alive(inc))
		mustBury(t, suspect(inc), dead(inc))
		mustBury(t, dead(inc), dead(inc))
	}
}

// P13.3: states that may not be stay as they are.
func TestStatesThatMayNotBeStay(t *testing.T) {
	for _, m := range members() {
		if m.State < 0 || m.State > 2 {
			mustSuspect(t, m, m)
			mustBury(t, m, m)
		}
	}
}

// P13.3: what is done twice is as if done once; one behind the other goes from alive to dead.
func TestSuspectAndBuryTwice(t *testing.T) {
	for _, m := range members() {
		mustSuspect(t, member.Suspect(m), member.Suspect(m))
		mustBury(t, member.Bury(m), member.Bury(m))
	}
	mustBury(t, member.Suspect(alive(4)), dead(4))
	mustSuspect(t, member.Bury(alive(4)), suspect(4))
	mustSuspect(t, member.Bury(suspect(4)), dead(4))
}

// P13.3: of an Inc below its own a node says nothing new, whatever is heard of it.
func TestSpeakOfLess(t *testing.T) {
	for _, own := range []api.Member{alive(5), suspect(5), dead(5), {Inc: 5, State: 3}, {Inc: 5, State: -1}} {
		for _, inc := range []int64{4, 3, 0, -1, math.MinInt64} {
			for _, state := range states {
				mustSpeak(t, own, api.Member{Inc: inc, State: state}, own)
			}
		}
	}
	mustSpeak(t, alive(api.MaxInc), dead(api.MaxInc-1), alive(api.MaxInc))
	mustSpeak(t, alive(0), dead(-1), alive(0))
}

// P13.3: of one that is heard to be alive it says nothing new, however often that one spoke up.
func TestSpeakOfAlive(t *testing.T) {
	for _, own := range members() {
		for _, inc := range append([]int64{4, 5, 6, 1000}, incs...) {
			mustSpeak(t, own, alive(inc), own)
		}
	}
}

// P13.3: else it is alive, and spoke up once more than was heard: of its own Inc, of one more, and of one far above.
func TestSpeakUp(t *testing.T) {
	for _, own := range []api.Member{alive(5), suspect(5), dead(5), {Inc: 5, State: 3}, {Inc: 5, State: math.MinInt}} {
		for _, state := range states {
			if state == api.MAlive {
				continue
			}
			mustSpeak(t, own, api.Member{Inc: 5, State: state}, alive(6))
			mustSpeak(t, own, api.Member{Inc: 6, State: state}, alive(7))
			mustSpeak(t, own, api.Member{Inc: 1 << 39, State: state}, alive(1<<39+1))
		}
	}
	mustSpeak(t, alive(0), suspect(0), alive(1))
	mustSpeak(t, alive(0), dead(1), alive(2))
	mustSpeak(t, dead(3), suspect(3), alive(4))
}

// P13.3: from 2^40 on the Inc stays the one that was heard.
func TestSpeakAtTheGreatest(t *testing.T) {
	for _, state := range []int{1, 2, 3, -1, math.MaxInt, math.MinInt} {
		heard := func(inc int64) api.Member { return api.Member{Inc: inc, State: state} }
		mustSpeak(t, alive(1), heard(1<<40-2), alive(1<<40-1))
		mustSpeak(t, alive(1), heard(1<<40-1), alive(1<<40))
		for _, inc := range []int64{1 << 40, 1<<40 + 1, 1<<40 + 2, 1 << 62, math.MaxInt64 - 1, math.MaxInt64} {
			mustSpeak(t, alive(1), heard(inc), alive(inc))
			mustSpeak(t, dead(inc), heard(inc), alive(inc))
		}
		mustSpeak(t, alive(1<<40-1), heard(1<<40-1), alive(1<<40))
		mustSpeak(t, alive(1<<40), heard(1<<40-1), alive(1<<40))
		mustSpeak(t, suspect(1<<40), heard(1<<40), alive(1<<40))
	}
}

// P13.3: an Inc below 0 that was heard is gone past by one, too, where the node's own is not more.
func TestSpeakBelowZero(t *testing.T) {
	mustSpeak(t, alive(-7), suspect(-5), alive(-4))
	mustSpeak(t, alive(-5), suspect(-5), alive(-4))
	mustSpeak(t, alive(-1), dead(-1), alive(0))
	mustSpeak(t, alive(math.MinInt64), dead(math.MinInt64), alive(math.MinInt64+1))
	mustSpeak(t, alive(math.MinInt64), dead(math.MaxInt64), alive(math.MaxInt64))
	mustSpeak(t, alive(math.MaxInt64), dead(math.MinInt64), alive(math.MaxInt64))
}

// P13.3: all members, those that may not be with them, that hear all others, in the chapter's words.
func TestSpeakOfAllPairs(t *testing.T) {
	for _, own := range members() {
		for _, heard := range members() {
			mustSpeak(t, own, heard, toldSpeak(own, heard))
		}
	}
}
