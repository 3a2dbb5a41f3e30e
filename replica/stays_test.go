package replica_test

import (
	"fmt"
	"math"
	"slices"
	"testing"

	"witan/api"
	"witan/replica"
)

// P18.3, and the rules that hold everywhere: what stands in a replica, memory, nil, and arguments of all kinds.

func TestNew(t *testing.T) {
	for id := range ids {
		for _, members := range [][]int{firstOf(4), firstOf(10), spread(4), spread(10), {12, 13, 14, 15}, {3, 7, 8, 9, 10, 12}} {
			p := pairOf(t, id, members...)
			p.stands(0, 0, true, 0, leaves)
			if p.r.ID() != id || p.r.Halted() || p.r.Size() != 0 || len(p.r.Chain()) != 0 || len(p.r.History()) != 0 {
				t.Error(p.tell())
			}
			if p.r.State() != roadOf(members...).ledger.Text() {
				t.Error(p.r.State())
			}
		}
	}
}

func TestNewOfWrongArguments(t *testing.T) {
	for _, id := range []int{-1, 16, 17, 100, 101, 255, 256, math.MinInt, math.MaxInt} {
		if r, e := replica.New(id, conf(0, 0, 1, 2, 3)); r != nil || e != api.ErrArg {
			t.Error(id, r, e)
		}
	}
	for _, c := range []api.Conf{
		{}, conf(0), conf(0, 0, 1, 2), conf(0, firstOf(11)...), conf(0, firstOf(16)...),
		conf(0, 0, 1, 2, 16), conf(0, -1, 0, 1, 2), conf(0, 0, 1, 1, 2), conf(0, 0, 2, 1, 3), conf(0, 3, 2, 1, 0), conf(0, 0, 0, 0, 0),
		conf(1, 0, 1, 2, 3), conf(-1, 0, 1, 2, 3), conf(lastEpoch, 0, 1, 2, 3), conf(lastEpoch+1, 0, 1, 2, 3), conf(math.MinInt, 0, 1, 2, 3), conf(math.MaxInt, 0, 1, 2, 3),
		conf(0, math.MinInt, 0, 1, math.MaxInt),
	} {
		for _, id := range []int{0, 2, 15, -1, 16} {
			if r, e := replica.New(id, c); r != nil || e != api.ErrArg {
				t.Error(id, c, r, e)
			}
		}
	}
}

// somethingOfEach answers messages of each kind that somebody may take at the beginning, each with who sends it.
func somethingOfEach() map[int]api.Msg {
	full := roadOf(0, 1, 2, 3).ledger
	fill(full)
	q := put(1, 1, "k", 2)
	return map[int]api.Msg{
		101: askMsg(q), 0: proposeMsg(0, 0, 1, q), 3: prepareMsg(3, 0, 0, 1, q), 2: commitMsg(0, 0, 1, q), 1: voteFor(1, full),
		4: changeMsg(0, 4, 1), 5: plainNewView(0, 1, 0, 1, 2), 6: replyMsg(0, q, api.Result{}), 7: fetchMsg(0), 8: walked(1, 0, 1, 2, 3).state(),
	}
}

// R7: a replica that is nil answers zeros, at each call. One that New didn't make answers likewise.
func TestNilAndZeroReplicas(t *testing.T) {
	for _, r := range []*replica.Replica{nil, {}} {
		for range 2 {
			for from, m := range somethingOfEach() {
				if out := r.Handle(1, from, m); len(out) != 0 {
					t.Error(tellAll(out))
				}
			}
			for _, now := range []int{0, 4, 7, 8, -4, math.MinInt, math.MaxInt} {
				if out := r.Tick(now); len(out) != 0 {
					t.Error(tellAll(out))
				}
			}
			if r.ID() != 0 || r.Epoch() != 0 || r.View() != 0 || r.Active() || r.Done() != 0 || r.Left() != 0 || r.Halted() || r.Size() != 0 {
				t.Error(r.ID(), r.Epoch(), r.View(), r.Active(), r.Done(), r.Left(), r.Halted(), r.Size())
			}
			if r.State() != "" || len(r.Chain()) != 0 || len(r.History()) != 0 {
				t.Error(r.State(), r.Chain(), r.History())
			}
		}
	}
}

// W0: any times, any numbers of nodes, and any messages.
func TestAnyArguments(t *testing.T) {
	numbers := []int{math.MinInt, -1 << 40, -201, -1, 0, 1, 2, 9, 16, 99, 100, 101, 199, 200, 255, 256, 1 << 20, 1 << 40, 1<<40 + 1, math.MaxInt}
	p := pairOf(t, 1, 0, 1, 2, 3)
	for _, now := range numbers {
		p.tick(now)
		for _, from := range numbers {
			for _, m := range somethingOfEach() {
				if m.Kind != api.MState { // the epoch is to stay
					p.handle(now, from, m)
				}
			}
		}
	}
	for _, n := range numbers {
		for _, m := range []api.Msg{
			{Kind: n}, {Kind: api.MFetch, Epoch: n}, {Kind: api.MCommit, View: n, Slot: 1}, {Kind: api.MCommit, Slot: n}, {Kind: api.MRequest, Req: api.Request{Client: n, Stamp: n}},
			{Kind: api.MPrepare, Slot: 1, Sigs: []api.Sig{{By: n}}}, {Kind: api.MVote, Slot: 4, Text: "x", Next: []int{n, 1, 2, 3}}, {Kind: api.MChange, View: 1, Changes: []api.Change{{From: n, View: n}}},
			{Kind: api.MState, Epoch: 1, Slot: 4, Text: "x", Links: []api.Link{{Conf: conf(n, 0, 1, 2, 3)}}}, {Kind: api.MNewView, View: n},
		} {
			p.handle(1, 3, m)
		}
	}
}

// Time at its bounds: a timer that starts beyond the last time is never due.
func TestFarTimes(t *testing.T) {
	q := put(1, 1, "k", 2)
	p := pairOf(t, 2, 0, 1, 2, 3)
	p.handle(math.MaxInt, 101, askMsg(q))
	p.tick(math.MaxInt)
	p.tick(math.MinInt)
	p.stands(0, 0, true, 0, leaves)
	p = pairOf(t, 2, 0, 1, 2, 3)
	p.handle(math.MinInt, 101, askMsg(q))
	p.tick(7)
	p.stands(0, 0, true, 0, leaves)
	p.tick(8)
	p.stands(0, 1, false, 0, leaves-1)
}

// Each fourth tick tells, whatever the number; the others don't.
func TestWhenItTells(t *testing.T) {
	for _, id := range []int{0, 2, 9} {
		p := pairOf(t, id, 0, 1, 2, 3)
		for now := -9; now <= 9; now++ {
			got := p.tick(now)
			if slices.Contains([]int{-8, -4, 0, 4, 8}, now) {
				p.expect(got, p.to(p.rest(), fetchMsg(0))...)
				continue
			}
			p.expectNone(got)
		}
	}
}

// What it says is told again as it was said, in its order, as often as time comes; what was only told isn't.
func TestWhatItTellsAgain(t *testing.T) {
	p := pairOf(t, 0, 0, 1, 2, 3)
	q, other := put(1, 1, "k", 2), put(2, 1, "k", 3)
	said := p.proposes(1, 1, q)
	said = append(said, p.proposes(1, 2, other)...)
	for _, out := range [][]api.Packet{p.prepares(1, 2, other, 1, 2), p.prepares(1, 1, q, 1, 3)} {
		said = append(said, out...)
	}
	if len(said) != 18 {
		t.Fatal(tellBriefly(said))
	}
	said = append(said, p.fetches()...)
	p.commits(2, 1, q, 1, 2)        // a reply, which isn't said
	for now := 4; now <= 9; now++ { // behind that it gives up, as the slot 2 isn't done
		if now%again == 0 {
			p.expect(p.tick(now), said...)
			continue
		}
		p.expectNone(p.tick(now))
	}
}

// Of what it says it leaves its vote alone when it gives up a view, and what it says of the next one comes behind.
func TestWhatItSaysNoMore(t *testing.T) {
	p := pairOf(t, 1, 0, 1, 2, 3)
	q := put(1, 1, "k", 2)
	p.does(1, 1, q)
	p.changes(2, 2, 0, 3)
	own := changeMsg(0, 1, 2, certOf(0, 0, 1, q, 0, 1, 2))
	p.expect(p.tick(4), append(p.to(p.rest(), own), p.fetches()...)...)
	p.handle(5, 2, plainNewView(0, 2, 0, 2, 3))
	p.expect(p.tick(8), p.fetches()...)
	p.expect(p.proposes(9, 1, q), p.to(p.rest(), prepareMsg(1, 0, 2, 1, q))...)
	p.expect(p.tick(12), append(p.to(p.rest(), prepareMsg(1, 0, 2, 1, q)), p.fetches()...)...)
	p.changes(13, 5, 0)
	p.handle(13, 3, changeMsg(0, 3, 5, certOf(0, 2, 3, null, 0, 1, 2)))
	begin := newViewMsg(0, 5, changeOf(0, 0, 5), changeOf(0, 1, 5, certOf(0, 0, 1, q, 0, 1, 2)), changeOf(0, 3, 5, certOf(0, 2, 3, null, 0, 1, 2)))
	p.expect(p.tick(16), append(p.to(p.rest(), begin, prepareMsg(1, 0, 5, 1, q), prepareMsg(1, 0, 5, 2, null), prepareMsg(1, 0, 5, 3, null)), p.fetches()...)...)
	p.changes(17, 6, 0, 3)
	own = changeMsg(0, 1, 6, certOf(0, 0, 1, q, 0, 1, 2))
	p.expect(p.tick(20), append(p.to(p.rest(), own), p.fetches()...)...)
}

// The most that it says of four slots: the beginning of a view, three messages a slot, and its vote.
func TestTheMostThatItSays(t *testing.T) {
	p := pairOf(t, 1, 0, 1, 2, 3)
	p.changes(1, 1, 0, 3)
	said := p.to(p.rest(), plainNewView(0, 1, 0, 1, 3))
	for slot := 1; slot <= interval; slot++ {
		q := put(slot, 1, "k", 2)
		p.does(2, slot, q)
		said = append(said, p.to(p.rest(), proposeMsg(0, 1, slot, q), prepareMsg(1, 0, 1, slot, q), commitMsg(0, 1, slot, q))...)
	}
	said = append(said, p.to(p.rest(), voteFor(1, p.m.ledger))...)
	p.expect(p.tick(4), append(said, p.fetches()...)...)
	if p.bound != 14 {
		t.Error(p.bound)
	}
	if len(said)/3 > 3*interval+3 {
		t.Error(len(said))
	}
}

// A log that is full: a proposal a slot, and what each member prepared and committed there; nothing more is taken.
func TestTheMostThatStandsInItsLog(t *testing.T) {
	for n := 4; n <= 10; n++ {
		members := firstOf(n)
		p := pairOf(t, 1, members...)
		for round := range 3 {
			for slot := 1; slot <= interval; slot++ {
				q := put(1+round, slot, "k", 2)
				p.proposes(1, slot, q)
				p.prepares(1, slot, q, p.rest()...)
				if slot > 1 { // the first one is never done, so that the epoch goes on
					p.commits(1, slot, q, p.rest()...)
				}
				p.commits(1, 1, null, p.rest()...)
			}
		}
		if want := interval * (1 + 2*n); p.r.Size() != want {
			t.Error(n, p.r.Size(), want)
		}
		p.stands(0, 0, true, 0, leaves-4)
	}
}

// Eight requests wait at most, one a client: whatever was asked, the next epochs' slots are proposed with those.
func TestTheMostThatWaits(t *testing.T) {
	p := pairOf(t, 0, 0, 1, 2, 3)
	p.enters(0, 1)
	for stamp := 1; stamp <= 5; stamp++ {
		for client := 1; client <= clients; client++ {
			p.expectNone(p.handle(1, node+client, askMsg(put(client, stamp, "k", 2))))
		}
	}
	proposed := 0
	for epoch := 1; epoch <= 3; epoch++ {
		out := p.handle(epoch, 9, walked(epoch, 0, 1, 2, 3).state())
		for _, x := range out {
			if x.To == 1 && x.Msg.Kind == api.MPropose {
				proposed++
				if x.Msg.Req.Stamp != 5 || x.Msg.Req.Client != x.Msg.Slot-interval*epoch {
					t.Error(tellPacket(x))
				}
			}
		}
	}
	if proposed != 3*interval { // none of them was done: the same four each time
		t.Error(proposed)
	}
}

// R4: the first configuration isn't kept, and what New was handed stays.
func TestTheFirstConfiguration(t *testing.T) {
	members := withRoom([]int{0, 1, 2, 3})
	r, e := replica.New(2, api.Conf{Members: members})
	if e != api.OK || !slices.Equal(members, []int{0, 1, 2, 3}) {
		t.Fatal(e, members)
	}
	copy(members, []int{4, 5, 6, 7})
	q := put(1, 1, "k", 2)
	if out := r.Handle(1, 0, proposeMsg(0, 0, 1, q)); len(out) != 3 || out[0].To != 0 || out[2].To != 3 {
		t.Error(tellBriefly(out))
	}
	if out := r.Handle(1, 4, proposeMsg(0, 0, 2, q)); len(out) != 0 {
		t.Error(tellBriefly(out))
	}
}

// Two replicas beside each other know nothing of one another, and what is handed to one of them is the other one's as well, unchanged.
func TestTwoReplicas(t *testing.T) {
	q := put(1, 1, "k", 2)
	one, other := pairOf(t, 2, 0, 1, 2, 3), pairOf(t, 3, 0, 1, 2, 3)
	twin := pairOf(t, 2, 0, 1, 2, 3)
	before := other.tell()
	one.does(1, 1, q)
	one.changes(1, 1, 0, 3)
	for _, p := range []*pair{other, twin} {
		p.ticks(2, 20)
		p.stands(0, 0, true, 0, leaves)
	}
	if other.tell() != before {
		t.Error(other.tell())
	}
	twin.does(21, 1, q)
	one.ticks(2, 21)
	m := walked(1, 0, 1, 2, 3).state()
	a, _ := replica.New(2, conf(0, 0, 1, 2, 3))
	b, _ := replica.New(2, conf(0, 0, 1, 2, 3))
	a.Handle(1, 0, m)
	b.Handle(1, 0, m)
	spoilLinks(a.Chain())
	for _, x := range a.Handle(2, 9, fetchMsg(0)) {
		spoilMsg(x.Msg)
	}
	for _, r := range []*replica.Replica{a, b} {
		got := r.Handle(3, 9, fetchMsg(0))
		if len(got) != 1 || !isEqual(got[0].Msg, walked(1, 0, 1, 2, 3).state()) {
			t.Error(tellAll(got))
		}
	}
}

// R6: what is asked changes nothing, and what is answered hangs on the calls alone.
func TestTheSameRowTwice(t *testing.T) {
	rows := [2]string{}
	for i := range rows {
		p := pairOf(t, 1, 0, 1, 2, 3)
		var out []api.Packet
		for client := clients; client >= 1; client-- {
			out = append(out, p.handle(client, node+client, askMsg(put(client, 1, fmt.Sprint(client), 2)))...)
		}
		out = append(out, p.changes(9, 1, 3, 0)...)
		out = append(out, p.ticks(10, 60)...)
		rows[i] = tellAll(out) + p.tell()
	}
	if rows[0] != rows[1] {
		t.Error(rows)
	}
}
