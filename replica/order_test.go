package replica_test

import (
	"fmt"
	"slices"
	"testing"

	"witan/api"
)

// P18.1: requests, and what becomes of them within a view.

// The chapter's example.
func TestExample(t *testing.T) {
	p := pairOf(t, 0, 0, 1, 2, 3)
	q := put(1, 1, "k", 2)
	rest := []int{1, 2, 3}
	p.expect(p.handle(1, 101, askMsg(q)), p.to(rest, proposeMsg(0, 0, 1, q), prepareMsg(0, 0, 0, 1, q))...)
	p.expectNone(p.handle(1, 2, prepareMsg(2, 0, 0, 1, q)))
	p.expect(p.handle(1, 3, prepareMsg(3, 0, 0, 1, q)), p.to(rest, commitMsg(0, 0, 1, q))...)
	p.expectNone(p.handle(2, 3, commitMsg(0, 0, 1, q)))
	p.expect(p.handle(2, 1, commitMsg(0, 0, 1, q)), p.reply(0, q, api.Result{Real: 2}))
	p.stands(0, 0, true, 1, leaves-1)
	if got := p.r.History(); len(got) != 1 || got[0] != (api.Entry{Slot: 1, Req: q}) {
		t.Error(got)
	}
}

// The example again, with all that is answered written field by field.
func TestExampleFieldByField(t *testing.T) {
	p := pairOf(t, 0, 0, 1, 2, 3)
	q := api.Request{Client: 2, Stamp: 3, Op: api.Op{Kind: api.OpPut, Key: "k", Real: 1}}
	text := "\x01\x02\x00\x00\x00\x03\x01\x00\x01k\x3f\xf0\x00\x00\x00\x00\x00\x00\x00"
	prepared := "P\x00\x00\x00\x00\x00\x00\x00\x00\x00\x00\x00\x01" + text
	got := p.handle(1, 102, api.Msg{Kind: api.MRequest, Req: q, Sigs: []api.Sig{{By: 102, Text: text}}})
	p.expect(got,
		api.Packet{From: 0, To: 1, Msg: api.Msg{Kind: api.MPropose, Slot: 1, Req: q, Sigs: []api.Sig{{By: 102, Text: text}}}},
		api.Packet{From: 0, To: 2, Msg: api.Msg{Kind: api.MPropose, Slot: 1, Req: q, Sigs: []api.Sig{{By: 102, Text: text}}}},
		api.Packet{From: 0, To: 3, Msg: api.Msg{Kind: api.MPropose, Slot: 1, Req: q, Sigs: []api.Sig{{By: 102, Text: text}}}},
		api.Packet{From: 0, To: 1, Msg: api.Msg{Kind: api.MPrepare, Slot: 1, Req: q, Sigs: []api.Sig{{By: 0, Text: prepared}}}},
		api.Packet{From: 0, To: 2, Msg: api.Msg{Kind: api.MPrepare, Slot: 1, Req: q, Sigs: []api.Sig{{By: 0, Text: prepared}}}},
		api.Packet{From: 0, To: 3, Msg: api.Msg{Kind: api.MPrepare, Slot: 1, Req: q, Sigs: []api.Sig{{By: 0, Text: prepared}}}},
	)
}

// Each who isn't the primary keeps the request and says nothing; a proposal it takes up, and prepares, commits and does it.
func TestTheOthers(t *testing.T) {
	q := put(1, 1, "k", 2)
	for id := 1; id < 4; id++ {
		p := pairOf(t, id, 0, 1, 2, 3)
		p.expectNone(p.handle(1, 101, askMsg(q)))
		p.expect(p.handle(2, 0, proposeMsg(0, 0, 1, q)), p.to(p.rest(), prepareMsg(id, 0, 0, 1, q))...)
		by := p.peers(3)
		p.expectNone(p.prepares(3, 1, q, by[1]))
		p.expect(p.prepares(3, 1, q, by[2]), p.to(p.rest(), commitMsg(0, 0, 1, q))...)
		p.expectNone(p.prepares(3, 1, q, by[0]))
		p.expectNone(p.commits(4, 1, q, by[2]))
		p.expect(p.commits(4, 1, q, by[0]), p.reply(0, q, api.Result{Real: 2}))
		p.expectNone(p.commits(4, 1, q, by[1]))
		p.stands(0, 0, true, 1, leaves-1)
	}
}

// Of each number of members a quorum is needed, and the one itself is one of them.
func TestQuorumsOfEachSize(t *testing.T) {
	q := put(3, 1, "k", 2)
	for n := 4; n <= 10; n++ {
		members := spread(n)
		p := pairOf(t, members[1], members...)
		p.proposes(1, 1, q)
		by := p.peers(n - 1)
		need := quorumOf(n) - 1
		p.expectNone(p.prepares(2, 1, q, by[:need-1]...))
		p.expect(p.prepares(2, 1, q, by[need-1]), p.to(p.rest(), commitMsg(0, 0, 1, q))...)
		p.expectNone(p.commits(3, 1, q, by[n-1-need:n-2]...))
		p.expect(p.commits(3, 1, q, by[n-2]), p.reply(0, q, api.Result{Real: 2}))
		p.expectNone(p.prepares(4, 1, q, by[need:]...))
	}
}

// What others prepared and committed may come ahead of the proposal: it is all done at once then.
func TestAheadOfTheProposal(t *testing.T) {
	q := put(1, 1, "k", 2)
	p := pairOf(t, 3, 0, 1, 2, 3)
	p.expectNone(p.commits(1, 1, q, 2, 1))
	p.expectNone(p.prepares(1, 1, q, 2, 1))
	p.expectNone(p.handle(1, 101, askMsg(q)))
	want := p.to(p.rest(), prepareMsg(3, 0, 0, 1, q), commitMsg(0, 0, 1, q))
	p.expect(p.proposes(2, 1, q), append(want, p.reply(0, q, api.Result{Real: 2}))...)
	p.stands(0, 0, true, 1, leaves-1)
	if p.r.Size() != 7 {
		t.Error(p.r.Size())
	}
}

// The primary, too, may hear of it ahead of the client.
func TestAheadOfThePrimary(t *testing.T) {
	q := put(1, 1, "k", 2)
	p := pairOf(t, 0, 0, 1, 2, 3)
	p.expectNone(p.commits(1, 1, q, 2, 1))
	p.expectNone(p.prepares(1, 1, q, 2, 1))
	want := p.to(p.rest(), proposeMsg(0, 0, 1, q), prepareMsg(0, 0, 0, 1, q), commitMsg(0, 0, 1, q))
	p.expect(p.proposes(2, 1, q), append(want, p.reply(0, q, api.Result{Real: 2}))...)
}

// Commits may be enough ahead of the prepares: the last prepare brings the commit and the doing.
func TestCommitsAheadOfPrepares(t *testing.T) {
	q := put(1, 1, "k", 2)
	p := pairOf(t, 3, 0, 1, 2, 3)
	p.proposes(1, 1, q)
	p.expectNone(p.commits(1, 1, q, 0, 1, 2))
	p.expectNone(p.prepares(1, 1, q, 1))
	want := p.to(p.rest(), commitMsg(0, 0, 1, q))
	p.expect(p.prepares(1, 1, q, 2), append(want, p.reply(0, q, api.Result{Real: 2}))...)
}

// Prepares and commits of another request stand there, and count for nothing.
func TestUnlikeRequests(t *testing.T) {
	q, other := put(1, 1, "k", 2), put(1, 1, "k", 3)
	p := pairOf(t, 3, 0, 1, 2, 3)
	p.proposes(1, 1, q)
	p.expectNone(p.prepares(1, 1, other, 0, 1))
	p.expectNone(p.prepares(1, 1, q, 0, 1))
	p.expectNone(p.prepares(1, 1, q, 2))
	p.expectNone(p.commits(1, 1, other, 0, 1))
	p.expectNone(p.commits(1, 1, q, 0, 1, 2))
	p.stands(0, 0, true, 0, leaves-1)
	if p.r.Size() != 8 {
		t.Error(p.r.Size())
	}
}

// What is committed is done slot by slot: a later one waits for those ahead of it.
func TestSlotsOutOfOrder(t *testing.T) {
	p := pairOf(t, 2, 0, 1, 2, 3)
	list := []api.Request{put(1, 1, "k", 2), get(2, 1), null, put(3, 1, "k", 5)}
	for slot := 3; slot >= 2; slot-- {
		out := p.does(1, slot, list[slot-1])
		p.expect(out, p.to(p.rest(), prepareMsg(2, 0, 0, slot, list[slot-1]), commitMsg(0, 0, slot, list[slot-1]))...)
		p.stands(0, 0, true, 0, leaves-4+slot)
	}
	p.proposes(2, 1, list[0])
	p.prepares(2, 1, list[0], 0, 1)
	p.expectNone(p.commits(2, 1, list[0], 0))
	p.expect(p.commits(2, 1, list[0], 1), p.reply(0, list[0], api.Result{Real: 2}), p.reply(0, list[1], api.Result{Real: 2}))
	p.stands(0, 0, true, 3, leaves-3)
	var want []api.Entry
	for i, q := range list[:3] {
		want = append(want, api.Entry{Slot: i + 1, Req: q})
	}
	if got := p.r.History(); !slices.EqualFunc(got, want, isEqualEntry) {
		t.Error(tellEntries(got))
	}
}

// Each result is told to its client: what it came to, whatever that is.
func TestEachResult(t *testing.T) {
	p := pairOf(t, 2, 0, 1, 2, 3)
	rows := []struct {
		q    api.Request
		want api.Result
	}{
		{get(8, 4), api.Result{Code: api.CodeNone}},
		{leave(8, 5, 1), api.Result{Code: api.CodeFew}},
		{put(8, 3, "k", 2), api.Result{Code: api.CodeOld}},
		{join(8, 5, 9), api.Result{Code: api.CodeFew}},
	}
	for i, row := range rows {
		out := p.does(1, i+1, row.q)
		found := slices.ContainsFunc(out, func(x api.Packet) bool {
			return tellPacket(x) == tellPacket(p.reply(0, row.q, row.want))
		})
		if !found {
			t.Errorf("%v: %s", row.q, tellAll(out))
		}
	}
}

// R5: a real is told with its bits, and counts by them.
func TestReals(t *testing.T) {
	wrongs := []float64{nanOf(0x7FF0000000000001), nanOf(0xFFF8000000000000), nanOf(0xFFFFFFFFFFFFFFFF)}
	for _, x := range wrongs {
		q, one := put(1, 1, "k", x), put(1, 1, "k", nanOf(0x7FF8000000000000))
		p := pairOf(t, 2, 0, 1, 2, 3)
		p.handle(1, 101, askMsg(q))
		p.expect(p.proposes(1, 1, q), p.to(p.rest(), prepareMsg(2, 0, 0, 1, one))...)
		p.prepares(1, 1, one, 1)
		p.expect(p.prepares(1, 1, q, 3), p.to(p.rest(), commitMsg(0, 0, 1, one))...)
		p.commits(1, 1, one, 1)
		p.expect(p.commits(1, 1, q, 3), p.reply(0, one, api.Result{Real: nanOf(0x7FF8000000000000)}))
		p.expect(p.handle(2, 101, askMsg(q)), p.reply(0, one, api.Result{Real: nanOf(0x7FF8000000000000)}))
	}
	p := pairOf(t, 2, 0, 1, 2, 3)
	p.proposes(1, 1, put(1, 1, "k", 0))
	p.expectNone(p.prepares(1, 1, put(1, 1, "k", minusNought), 0, 1, 3))
}

// A request that comes again: its stamp is the last one's, smaller, or greater.
func TestARequestThatComesAgain(t *testing.T) {
	p := pairOf(t, 1, 0, 1, 2, 3)
	q := put(1, 5, "k", 2)
	p.does(1, 1, q)
	for _, again := range []api.Request{q, get(1, 5), leave(1, 5, 2)} {
		p.expect(p.handle(2, 101, askMsg(again)), p.reply(0, again, api.Result{Real: 2}))
	}
	for _, stamp := range []int{1, 4} {
		p.expectNone(p.handle(2, 101, askMsg(get(1, stamp))))
	}
	p.ticks(3, 30)
	p.stands(0, 0, true, 1, leaves-1) // none of these waits
	p.expectNone(p.handle(31, 101, askMsg(get(1, 6))))
	p.ticks(32, 39)
	p.stands(0, 1, false, 1, leaves-2) // that one does
}

// One request of a client waits at most, the one with the greatest stamp.
func TestWhichOfAClientsRequestsWaits(t *testing.T) {
	p := pairOf(t, 1, 0, 1, 2, 3)
	p.enters(0, 2)
	for _, stamp := range []int{7, 9, 8, 9} {
		q := put(4, stamp, fmt.Sprint("k", stamp), float64(stamp))
		p.expectNone(p.handle(1, 104, askMsg(q)))
	}
	p.handle(1, 104, askMsg(get(4, 9))) // the same stamp: the first one stays
	p.handle(1, 106, askMsg(get(6, 2)))
	q := put(4, 9, "k9", 9)
	out := p.changes(2, 5, 0, 2, 3)
	var said []api.Packet
	for _, x := range out {
		if x.Msg.Kind == api.MPropose {
			said = append(said, x)
		}
	}
	p.expect(said, p.to(p.rest(), proposeMsg(0, 5, 1, q), proposeMsg(0, 5, 2, get(6, 2)))...)
}

// What is done of a client with a stamp as great as that of what waits lets it wait no more; one with a smaller stamp doesn't.
func TestWhatWaitsNoMore(t *testing.T) {
	for stamp := 4; stamp <= 6; stamp++ {
		p := pairOf(t, 1, 0, 1, 2, 3)
		p.handle(1, 101, askMsg(put(1, 5, "k", 2)))
		p.handle(1, 102, askMsg(put(2, 9, "k", 2)))
		p.does(2, 1, put(2, 9, "k", 2)) // another client's
		p.does(2, 2, get(1, stamp))
		p.ticks(3, 9)
		p.stands(0, 0, true, 2, leaves-2)
		p.tick(10)
		if stamp >= 5 {
			p.stands(0, 0, true, 2, leaves-2)
			continue
		}
		p.stands(0, 1, false, 2, leaves-3)
	}
}

// The primary proposes what waits once each, slot by slot, as long as the epoch has one.
func TestFourSlots(t *testing.T) {
	p := pairOf(t, 0, 0, 1, 2, 3)
	for client := 1; client <= clients; client++ {
		q := put(client, 1, "k", float64(client))
		got := p.handle(client, node+client, askMsg(q))
		if client > interval {
			p.expectNone(got)
			continue
		}
		p.expect(got, p.to(p.rest(), proposeMsg(0, 0, client, q), prepareMsg(0, 0, 0, client, q))...)
	}
	p.stands(0, 0, true, 0, leaves-4)
	if p.r.Size() != 8 {
		t.Error(p.r.Size())
	}
}

// A client's next request is proposed, too, while its last one isn't done.
func TestTwoOfOneClient(t *testing.T) {
	p := pairOf(t, 0, 0, 1, 2, 3)
	one, next := put(1, 1, "k", 2), put(1, 2, "k", 2)
	p.proposes(1, 1, one)
	p.expect(p.proposes(1, 2, next), p.to(p.rest(), proposeMsg(0, 0, 2, next), prepareMsg(0, 0, 0, 2, next))...)
	p.expectNone(p.handle(1, 101, askMsg(one)))
	for slot, q := range []api.Request{one, next} {
		p.prepares(2, slot+1, q, 1, 2)
		p.expect(p.commits(2, slot+1, q, 1, 2), p.reply(0, q, api.Result{Real: 2}))
	}
}

// The timer runs from the first request or proposal on, not from a later one, and no more when that is done.
func TestWhenTheTimerRuns(t *testing.T) {
	q, other := put(1, 1, "k", 2), put(2, 1, "k", 2)
	begins := map[string]func(p *pair, now int){
		"a request":  func(p *pair, now int) { p.handle(now, 101, askMsg(q)) },
		"a proposal": func(p *pair, now int) { p.proposes(now, 1, q) },
	}
	for name, begin := range begins {
		for _, from := range []int{0, 5, 1000} {
			p := pairOf(t, 2, 0, 1, 2, 3)
			begin(p, from)
			p.handle(from+3, 102, askMsg(other))
			p.proposes(from+4, 2, other)
			p.ticks(from+5, from+7)
			p.stands(0, 0, true, 0, p.m.left)
			before := p.m.left
			p.tick(from + 8)
			if p.r.View() != 1 || p.r.Active() || p.r.Left() != before-1 {
				t.Error(name, p.r.View())
			}
		}
	}
	p := pairOf(t, 2, 0, 1, 2, 3)
	p.handle(1, 101, askMsg(q))
	p.does(5, 1, q)
	p.ticks(6, 100)
	p.stands(0, 0, true, 1, leaves-1)
}

// Neither prepares and commits nor what is refused start a timer.
func TestWhatStartsNoTimer(t *testing.T) {
	q := put(1, 1, "k", 2)
	p := pairOf(t, 2, 0, 1, 2, 3)
	p.prepares(1, 1, q, 0, 1)
	p.commits(1, 1, q, 0, 1)
	p.changes(1, 1, 3)
	p.handle(1, 1, voteMsg(1, 0, "x", []int{0, 1, 2, 3}))
	p.handle(1, 1, fetchMsg(0))
	p.handle(1, 0, proposeMsg(0, 1, 2, q))
	p.handle(1, 102, askMsg(q))
	p.ticks(2, 40)
	p.stands(0, 0, true, 0, leaves)
}

// Behind what was done the timer runs anew, if something waits; a slot that isn't done yet changes nothing.
func TestTheTimerBehindWhatWasDone(t *testing.T) {
	p := pairOf(t, 2, 0, 1, 2, 3)
	q := put(1, 1, "k", 2)
	p.handle(1, 101, askMsg(q))
	p.handle(1, 102, askMsg(get(2, 1)))
	p.does(4, 2, q)
	p.ticks(5, 8)
	p.stands(0, 0, true, 0, leaves-1)
	p.does(8, 1, null)
	p.stands(0, 0, true, 2, leaves-2)
	p.ticks(9, 15)
	p.stands(0, 0, true, 2, leaves-2)
	p.tick(16)
	p.stands(0, 1, false, 2, leaves-3)
}
