package ledger_test

import (
	"math"
	"slices"
	"testing"

	"witan/api"
	"witan/ledger"
)

// P12.1: new ledgers.

func TestNewOfEachRightNumber(t *testing.T) {
	for n := least; n <= most; n++ {
		p := pairOf(t, firstMembers(n)...)
		if c := p.l.Conf(); c.Epoch != 0 || !slices.Equal(c.Members, firstMembers(n)) || !slices.Equal(p.l.Next(), firstMembers(n)) || p.l.Done() != 0 || p.l.Full() {
			t.Errorf("%d: %v %v", n, c, p.l.Next())
		}
		var high []int
		for i := range n {
			high = append(high, ids-n+i)
		}
		pairOf(t, high...)
	}
	pairOf(t, 0, 5, 10, 15)
	pairOf(t, 1, 2, 7, 8, 15)
}

func TestNewOfWhatIsntRight(t *testing.T) {
	for _, c := range []api.Conf{
		{},
		{Members: []int{}},
		{Members: []int{0, 1, 2}},
		{Members: firstMembers(11)},
		{Members: firstMembers(16)},
		{Members: firstMembers(1000)},
		{Members: []int{0, 1, 2, 16}},
		{Members: []int{-1, 0, 1, 2}},
		{Members: []int{0, 1, 2, 256}},
		{Members: []int{math.MinInt, 0, 1, math.MaxInt}},
		{Members: []int{0, 1, 1, 2}},
		{Members: []int{0, 1, 2, 3, 3}},
		{Members: []int{1, 0, 2, 3}},
		{Members: []int{3, 2, 1, 0}},
		{Epoch: 1, Members: firstMembers(4)},
		{Epoch: 60, Members: firstMembers(4)},
		{Epoch: 61, Members: firstMembers(4)},
		{Epoch: -1, Members: firstMembers(4)},
		{Epoch: math.MinInt, Members: firstMembers(4)},
		{Epoch: math.MaxInt, Members: firstMembers(4)},
		{Epoch: 1},
	} {
		if l, e := ledger.New(c); l != nil || e != api.ErrArg {
			t.Errorf("New of %v: %v %d", c, l, e)
		}
	}
}

// P12.1, P12.4: who comes and goes.

func TestExample(t *testing.T) {
	p := four(t)
	p.comes(leave(1, 1, 0), api.CodeFew, 0)
	p.comes(join(1, 2, 4), api.CodeOK, 0)
	p.comes(leave(1, 3, 0), api.CodeOK, 0)
	p.comes(join(1, 4, 0), api.CodeOK, 0)
	if !slices.Equal(p.l.Conf().Members, []int{0, 1, 2, 3}) {
		t.Error("members ahead of the turn", p.l.Conf())
	}
	if e := p.turn(); e != api.OK || !slices.Equal(p.l.Conf().Members, []int{0, 1, 2, 3, 4}) {
		t.Error("members behind the turn", p.l.Conf(), e)
	}
}

// From each number of members, each replica asks to come and to go.
func TestEveryoneComesAndGoes(t *testing.T) {
	for n := least; n <= most; n++ {
		for id := range ids {
			comes, goes := api.CodeOK, api.CodeOK
			switch {
			case id < n:
				comes = api.CodeSame
				if n == least {
					goes = api.CodeFew
				}
			default:
				goes = api.CodeAbsent
				if n == most {
					comes = api.CodeMany
				}
			}
			p := pairOf(t, firstMembers(n)...)
			p.comes(join(1, 1, id), comes, 0)
			q := pairOf(t, firstMembers(n)...)
			q.comes(leave(1, 1, id), goes, 0)
			for _, x := range []*pair{p, q} {
				for !x.l.Full() {
					x.do(api.Request{})
				}
				x.turn()
			}
		}
	}
}

// The codes that two errors could have: who is a member of ten is the same, who is none of four is absent.
func TestFirstOfTwoCodes(t *testing.T) {
	p := pairOf(t, firstMembers(10)...)
	p.comes(join(1, 1, 9), api.CodeSame, 0)
	p.comes(join(1, 2, 10), api.CodeMany, 0)
	q := four(t)
	q.comes(leave(1, 1, 4), api.CodeAbsent, 0)
	q.comes(leave(1, 2, 3), api.CodeFew, 0)
}

func TestFromLeastToMostAndBack(t *testing.T) {
	p := pairOf(t, 3, 7, 11, 15)
	stamp := 0
	ask := func(kind, id, code int) {
		t.Helper()
		stamp++
		p.comes(request(2, stamp, kind, "", 0, id), code, 0)
	}
	for _, id := range []int{0, 14, 5, 8, 1, 12} {
		ask(api.OpJoin, id, api.CodeOK)
	}
	ask(api.OpJoin, 2, api.CodeMany)
	ask(api.OpJoin, 12, api.CodeSame)
	ask(api.OpLeave, 2, api.CodeAbsent)
	for _, id := range []int{15, 3, 0, 8, 7, 14} {
		ask(api.OpLeave, id, api.CodeOK)
	}
	ask(api.OpLeave, 1, api.CodeFew)
	ask(api.OpLeave, 3, api.CodeAbsent)
	if !slices.Equal(p.l.Next(), []int{1, 5, 11, 12}) {
		t.Error(p.l.Next())
	}
}

// Who is to be a member is asked, not who is one.
func TestMembersToBeCount(t *testing.T) {
	p := pairOf(t, 0, 1, 2, 3, 4)
	p.comes(leave(1, 1, 4), api.CodeOK, 0)
	p.comes(leave(1, 2, 4), api.CodeAbsent, 0)
	p.comes(leave(1, 3, 0), api.CodeFew, 0)
	p.comes(join(1, 4, 4), api.CodeOK, 0)
	p.comes(join(1, 5, 4), api.CodeSame, 0)
	p.comes(leave(2, 1, 0), api.CodeOK, 0)
	if !slices.Equal(p.l.Conf().Members, firstMembers(5)) || !slices.Equal(p.l.Next(), []int{1, 2, 3, 4}) {
		t.Error(p.l.Conf(), p.l.Next())
	}
}

// P12.1: slots and epochs.

func TestTurnsAndSlots(t *testing.T) {
	p := four(t)
	for epoch := range lastEpoch + 1 {
		for slot := range interval {
			if e := p.turn(); e != api.ErrState || p.l.Full() {
				t.Fatalf("turned ahead of its end: %d at %d", e, p.l.Done())
			}
			p.do(put(1, epoch*interval+slot+1, keyOf(slot), float64(epoch)))
			if p.l.Done() != epoch*interval+slot+1 || p.l.Conf().Epoch != epoch {
				t.Fatalf("%d done in the epoch %d", p.l.Done(), p.l.Conf().Epoch)
			}
		}
		if !p.l.Full() {
			t.Fatal("not full at its end")
		}
		p.refuses(put(1, lastStamp, "k", 1), api.ErrState)
		p.refuses(put(1, 1, "k", 1), api.ErrState)
		p.refuses(api.Request{}, api.ErrState)
		p.refuses(get(1, 0, "k"), api.ErrArg)
		if epoch < lastEpoch && p.turn() != api.OK {
			t.Fatal("not turned")
		}
	}
	for range 3 {
		before := p.l.Text()
		if e := p.turn(); e != api.ErrLong || p.l.Text() != before || p.l.Done() != 244 || !p.l.Full() {
			t.Error("turned at the end of all", e)
		}
		p.refuses(api.Request{}, api.ErrState)
	}
}

// In the last epoch, ahead of its end, it isn't full: that counts first.
func TestTurnInTheLastEpoch(t *testing.T) {
	m := modelOf(firstMembers(4))
	m.epoch, m.done = lastEpoch, lastEpoch*interval
	l := expectOpens(t, m.text())
	p := &pair{t: t, l: l, m: m}
	for range interval {
		if e := p.turn(); e != api.ErrState {
			t.Error(e)
		}
		p.comes(api.Request{}, api.CodeNull, 0)
	}
	if e := p.turn(); e != api.ErrLong {
		t.Error(e)
	}
}

// P12.4: a turn changes the members and the epoch, and nothing else; nothing else changes them.
func TestTurnAloneChangesMembers(t *testing.T) {
	p := pairOf(t, 0, 1, 2, 3, 4, 5)
	p.do(put(1, 1, "k", 1))
	stamp := 1
	for epoch := range lastEpoch {
		was := p.l.Conf()
		for !p.l.Full() {
			stamp++
			kind, id := api.OpJoin, (stamp*7)%ids
			if stamp%2 == 0 {
				kind, id = api.OpLeave, (stamp*5)%ids
			}
			p.do(request(1, stamp, kind, "", 0, id))
			if c := p.l.Conf(); c.Epoch != was.Epoch || !slices.Equal(c.Members, was.Members) {
				t.Fatal("members changed ahead of a turn")
			}
		}
		parts, next := p.m.parts(), p.l.Next()
		p.turn()
		if c := p.l.Conf(); c.Epoch != epoch+1 || !slices.Equal(c.Members, next) || !slices.Equal(p.l.Next(), next) {
			t.Fatal("other members behind a turn")
		}
		for i, part := range p.m.parts() {
			if i != 1 && part != parts[i] {
				t.Fatalf("the part %d changed at a turn", i)
			}
		}
	}
}

// R7: nil, and the zero ledger, which was made by nobody.

func TestNil(t *testing.T) {
	var none *ledger.Ledger
	for _, l := range []*ledger.Ledger{none, {}, none.Copy(), (&ledger.Ledger{}).Copy()} {
		for _, r := range append(wrongRequests(), api.Request{}, put(1, 1, "k", 1), join(1, 1, 4)) {
			if x, e := l.Do(r); x != (api.Result{}) || e != api.ErrArg {
				t.Errorf("Do of %v: %v %d", r, x, e)
			}
		}
		if e := l.Turn(); e != api.ErrArg {
			t.Error("Turn", e)
		}
		if c := l.Conf(); c.Epoch != 0 || len(c.Members) != 0 || len(l.Next()) != 0 || l.Done() != 0 || l.Full() || l.Text() != "" {
			t.Error(c, l.Next(), l.Done(), l.Full(), l.Text())
		}
		for _, key := range askedKeys() {
			if x, found := l.Get(key); x != 0 || math.Signbit(x) || found {
				t.Errorf("Get(%q): %v %v", key, x, found)
			}
		}
		for _, client := range askedClients() {
			if stamp, x := l.Last(client); stamp != 0 || x != (api.Result{}) {
				t.Errorf("Last(%d): %d %v", client, stamp, x)
			}
		}
	}
	if none.Copy() != nil {
		t.Error("a copy of nil")
	}
}

// Keys and clients that there are none of.
func TestKeysAndClientsThatAreNone(t *testing.T) {
	p := sixteen(t)
	for client := 1; client <= lastClient; client++ {
		p.comes(put(client, 100, keyOf(client), math.Inf(1)), api.CodeOK, math.Inf(1))
	}
	for _, key := range []string{"", "none", keyOf(16), keyOf(3) + "\x00", keyOf(3)[1:], "0123456789abcdefg"} {
		if x, found := p.l.Get(key); x != 0 || found {
			t.Errorf("Get(%q): %v %v", key, x, found)
		}
	}
	for _, client := range []int{math.MinInt, -1, 0, 9, 10, 101, 108, 257, math.MaxInt} {
		if stamp, x := p.l.Last(client); stamp != 0 || x != (api.Result{}) {
			t.Errorf("Last(%d): %d %v", client, stamp, x)
		}
	}
}
