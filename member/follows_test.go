package member_test

import (
	"slices"
	"testing"

	"shipwright/api"
	"shipwright/member"
)

// P13.4: three members give the same one, whoever is joined to whom, and however often.
func TestJoinInWhateverOrder(t *testing.T) {
	var l []api.Member
	for _, inc := range []int64{-1, 0, 1, 2, api.MaxInc} {
		for _, state := range []int{-1, 0, 1, 2, 3} {
			l = append(l, api.Member{Inc: inc, State: state})
		}
	}
	for _, a := range l {
		for _, b := range l {
			for _, c := range l {
				one := member.Join(member.Join(a, b), c)
				mustJoin(t, a, member.Join(b, c), one)
				mustJoin(t, member.Join(c, a), b, one)
				for _, m := range []api.Member{a, b, c, one} {
					mustJoinTo(t, m, one, one)
				}
			}
		}
	}
}

// orders are all in which three are joined, one behind the other.
var orders = [][3]int{{0, 1, 2}, {0, 2, 1}, {1, 0, 2}, {1, 2, 0}, {2, 0, 1}, {2, 1, 0}}

// P13.4: three lists of unlike lengths give the same list, whoever is joined to whom, in whatever order, and however often.
func TestAllInWhateverOrder(t *testing.T) {
	k := uint64(4)
	for range 2000 {
		lists := [3][]api.Member{drawn(&k, draw(&k, 12)), drawn(&k, draw(&k, 12)), drawn(&k, draw(&k, 12))}
		one := member.All(member.All(lists[0], lists[1]), lists[2])
		for _, o := range orders {
			a, b, c := lists[o[0]], lists[o[1]], lists[o[2]]
			mustAll(t, member.All(a, b), c, one)
			mustAll(t, a, member.All(b, c), one)
			mustAll(t, member.All(a, b), member.All(b, c), one)
			mustAll(t, one, a, one)
			mustAll(t, a, one, one)
		}
		mustAll(t, one, one, one)
	}
}

// P13.4: nodes that tell one another what they know, in whatever order, and doubled, come to know the same.
func TestNodesComeToKnowTheSame(t *testing.T) {
	k := uint64(5)
	for range 100 {
		const nodes = 5
		var known [nodes][]api.Member
		var want []api.Member
		for i := range known {
			known[i] = drawn(&k, draw(&k, 10))
			want = toldAll(want, known[i])
		}
		for range 30 {
			from, to := draw(&k, nodes), draw(&k, nodes)
			known[to] = member.All(known[to], known[from])
		}
		// Round by round each one hears the next one, so that all hear all.
		for range nodes {
			for i := range known {
				known[i] = member.All(known[i], known[(i+1)%nodes])
			}
		}
		for i := range known {
			if !slices.Equal(known[i], want) {
				t.Errorf("%d knows %v, want %v", i, known[i], want)
			}
		}
	}
}

// those are members that may be, near 0 and near the greatest Inc.
func those() []api.Member {
	var l []api.Member
	for _, inc := range []int64{0, 1, 2, 3, 7, 1 << 39, api.MaxInc - 2, api.MaxInc - 1, api.MaxInc} {
		l = append(l, alive(inc), suspect(inc), dead(inc))
	}
	return l
}

// P13.4: what a node says of itself may be, and comes behind what it said before, and behind what it heard: who joins them knows what it says now.
func TestSpeakComesBehind(t *testing.T) {
	up := 0
	for _, own := range those() {
		for _, heard := range those() {
			said := member.Speak(own, heard)
			mustCheck(t, said, api.OK)
			if heard.State != api.MAlive && heard.Inc == api.MaxInc {
				// There is no greater number to come behind with.
				continue
			}
			mustJoinTo(t, said, own, said)
			if heard.State == api.MAlive && heard.Inc > own.Inc {
				// That it lives it need not say again.
				mustSpeak(t, own, heard, own)
				continue
			}
			mustJoinTo(t, said, heard, said)
			if heard.State != api.MAlive && said == heard {
				t.Errorf("%v hears %v, and says just that", own, heard)
			}
			if said != own {
				up++
			}
		}
	}
	if up < 100 {
		t.Errorf("just %d spoke up", up)
	}
}

// P13.4: what a node that lives said is neither suspected nor dead to whoever hears it: until then it may be joined in whatever order.
func TestWhoSpeaksUpLives(t *testing.T) {
	for _, inc := range []int64{0, 1, 5, 1 << 33, api.MaxInc - 1} {
		own := alive(inc)
		buried := member.Bury(member.Suspect(own))
		others := member.All([]api.Member{own}, []api.Member{buried})
		mustAll(t, others, nil, []api.Member{dead(inc)})
		said := member.Speak(own, others[0])
		mustAllTo(t, others, []api.Member{said}, []api.Member{alive(inc + 1)})
		mustSpeak(t, said, buried, said)
		mustSpeak(t, said, said, said)
	}
}

// P13.4: who is suspected, and buried, comes behind what was known, and never goes back by it.
func TestSuspectAndBuryComeBehind(t *testing.T) {
	for _, m := range those() {
		mustJoinTo(t, m, member.Suspect(m), member.Suspect(m))
		mustJoinTo(t, m, member.Bury(m), member.Bury(m))
		mustCheck(t, member.Suspect(m), api.OK)
		mustCheck(t, member.Bury(m), api.OK)
	}
}
