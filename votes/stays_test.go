package votes_test

import (
	"slices"
	"testing"
	"unsafe"

	"witan/api"
	"witan/votes"
)

// R3: a call that is refused leaves all as it was, and what comes behind it comes to the same.
func TestWhatIsRefusedLeavesNothing(t *testing.T) {
	row := []int{2, 0, 3, 1}
	next := []int{0, 1, 2, 3, 9}
	for at := range len(row) + 1 {
		p := pairOf(t, 2, 0, 1, 2, 3)
		for _, id := range row[:at] {
			p.vote(id, "st", next, api.OK)
		}
		refusedAll(p, row[:at], row[at:])
		p.expectCount(at)
		for _, id := range row[at:] {
			p.vote(id, "st", next, api.OK)
		}
		p.expectSettled("st", next, 0, 1, 2, 3)
	}
}

// refusedAll makes votes that are all refused: of each thing that is wrong some, and of those who voted already.
func refusedAll(p *pair, voted, others []int) {
	p.t.Helper()
	next := []int{0, 1, 2, 3, 9}
	for _, id := range voted {
		p.vote(id, "st", next, api.ErrSame)
		p.vote(id, "ts", next, api.ErrSame)
		p.vote(id, "st", []int{0, 1, 2, 3}, api.ErrSame)
	}
	for _, id := range append(slices.Clone(voted), others...) {
		p.vote(id, "", next, api.ErrArg)
		p.vote(id, "st", nil, api.ErrArg)
		p.voteWith(id, "st", next, own((id+1)%4, 2, "st", next), api.ErrSig)
		p.voteWith(id, "st", next, own(id, 2, "st", next)[:1], api.ErrSig)
		p.voteWith(id, "ts", next, own(id, 2, "st", next), api.ErrSig)
		p.voteWith(id, "st", next, backwardSigs(own(id, 2, "st", next)), api.ErrSig)
	}
	for _, id := range []int{4, 9, -1, 16} {
		p.vote(id, "st", next, api.ErrAbsent)
	}
}

func backwardSigs(sigs []api.Sig) []api.Sig {
	other := slices.Clone(sigs)
	slices.Reverse(other)
	return other
}

// R4: memory.

// lists answers a vote's lists with room behind them, in which something stands.
func lists(id, epoch int, text string, next []int) ([]int, []api.Sig) {
	members := append(slices.Clone(next), 7, 7, 7)
	sigs := append(own(id, epoch, text, next), api.Sig{By: 7, Text: "behind"}, api.Sig{By: 7, Text: "behind"})
	return members[:len(next)], sigs[:2]
}

func TestListsThatAreHandedInStayAndArentKept(t *testing.T) {
	members := []int{0, 3, 7, 9, 15, 7, 7, 7}
	want := slices.Clone(members)
	p := &pair{t: t, y: tallyOf(t, api.Conf{Epoch: 1, Members: members[:5]}), m: &model{conf: conf(1, 0, 3, 7, 9, 15)}}
	for _, id := range []int{15, 0, 9, 3} {
		next, sigs := lists(id, 1, "st", []int{0, 1, 2, 3, 9})
		p.voteWith(id, "st", next, sigs, api.OK)
		if !slices.Equal(next[:8], []int{0, 1, 2, 3, 9, 7, 7, 7}) || !slices.Equal(sigs[:3], append(own(id, 1, "st", next), api.Sig{By: 7, Text: "behind"})) {
			t.Error("changed", next[:8], sigs[:3])
		}
		copy(next[:8], []int{15, 14, 13, 12, 11, 10, 9, 8})
		sigs[0], sigs[1] = api.Sig{By: -7, Text: "spoilt"}, api.Sig{By: -7, Text: "spoilt"}
		p.stands()
	}
	if !slices.Equal(members, want) {
		t.Error("changed", members)
	}
	copy(members, []int{1, 2, 4, 5, 6})
	p.stands()
	p.vote(1, "st", []int{0, 1, 2, 3, 9}, api.ErrAbsent)
	p.vote(7, "st", []int{0, 1, 2, 3, 9}, api.OK)
	members[0], members[1], members[2], members[3] = -7, -7, -7, -7
	p.expectSettled("st", []int{0, 1, 2, 3, 9}, 0, 3, 7, 9, 15)
}

// The tally's own members may be handed in as the next ones.
func TestOneListForBoth(t *testing.T) {
	members := []int{0, 1, 2, 3}
	p := &pair{t: t, y: tallyOf(t, api.Conf{Members: members}), m: &model{conf: conf(0, 0, 1, 2, 3)}}
	for _, id := range []int{0, 1, 2} {
		p.vote(id, "st", members, api.OK)
	}
	s, _ := p.y.Settled()
	spoil(s)
	members[0] = -7
	p.stands()
	p.expectSettled("st", []int{0, 1, 2, 3}, 0, 1, 2)
}

// spoil writes over all that the lists hold, and into the room behind them.
func spoil(s votes.Settled) {
	for _, list := range [][]api.Sig{s.Sigs, s.Link.Sigs} {
		for i := range list {
			list[i] = api.Sig{By: -7, Text: "spoilt"}
		}
		_ = append(list, api.Sig{By: -8})
	}
	_ = append(s.Link.Conf.Members, -8)
	for i := range s.Link.Conf.Members {
		s.Link.Conf.Members[i] = -7
	}
}

func TestListsThatAreAnsweredArentKept(t *testing.T) {
	p := pairOf(t, 0, firstOf(10)...)
	for id := range 10 {
		p.vote(id, "st", firstOf(7), api.OK)
		s, _ := p.y.Settled()
		spoil(s)
		p.stands()
	}
	one, _ := p.y.Settled()
	two, _ := p.y.Settled()
	spoil(one)
	want := shown(0, "st", firstOf(7), firstOf(10))
	if !isSameSettled(two, want) {
		t.Error("two answers share memory")
	}
	_ = append(two.Sigs, api.Sig{By: -7})
	for i := range two.Sigs {
		two.Sigs[i] = api.Sig{}
	}
	if !slices.Equal(two.Link.Sigs, want.Link.Sigs) || !slices.Equal(two.Link.Conf.Members, want.Link.Conf.Members) {
		t.Error("two lists of one answer share memory")
	}
}

// borrowed answers a text in bytes that are overwritten when it is told to.
func borrowed(s string) (string, func()) {
	bytes := []byte(s)
	return unsafe.String(&bytes[0], len(bytes)), func() {
		for i := range bytes {
			bytes[i] = 'x'
		}
	}
}

// The bytes of states and of signatures are the caller's: they may be overwritten behind the call.
func TestTextsThatAreHandedInArentKept(t *testing.T) {
	p := pairOf(t, 0, firstOf(4)...)
	for id := range 3 {
		text, overwrite := borrowed("a state")
		sigs := own(id, 0, "a state", firstOf(5))
		var overwrites []func()
		for i, s := range sigs {
			borrowed, overwrite := borrowed(s.Text)
			sigs[i].Text = borrowed
			overwrites = append(overwrites, overwrite)
		}
		if e := p.y.Add(id, text, firstOf(5), sigs); e != api.OK {
			t.Fatal(e)
		}
		p.m.take(vote{id, "a state", firstOf(5)}, own(id, 0, "a state", firstOf(5)))
		overwrite()
		for _, each := range overwrites {
			each()
		}
		p.stands()
	}
	p.vote(3, "a state", firstOf(5), api.OK)
	p.expectSettled("a state", firstOf(5), 0, 1, 2, 3)
}

// Two tallies of one configuration are apart.
func TestTalliesAreApart(t *testing.T) {
	c := conf(0, 0, 1, 2, 3)
	one := &pair{t: t, y: tallyOf(t, c), m: &model{conf: conf(0, 0, 1, 2, 3)}}
	two := &pair{t: t, y: tallyOf(t, c), m: &model{conf: conf(0, 0, 1, 2, 3)}}
	for id := range 3 {
		one.vote(id, "st", firstOf(4), api.OK)
		two.stands()
		two.vote(id, "ts", firstOf(5), api.OK)
		one.stands()
	}
	one.expectSettled("st", firstOf(4), 0, 1, 2)
	two.expectSettled("ts", firstOf(5), 0, 1, 2)
}

// R6: asking changes nothing.
func TestAskedTwice(t *testing.T) {
	p := pairOf(t, 0, firstOf(4)...)
	for id := range 4 {
		for range 20 {
			p.stands()
		}
		p.vote(id, "st", firstOf(4), api.OK)
	}
	for range 50 {
		p.stands()
	}
	p.expectCount(4)
}
