package replica_test

import (
	"slices"
	"testing"

	"witan/api"
	"witan/ledger"
)

// P18.1: how an epoch ends, what is settled, and how the next one begins.

// lastSlot answers one that did all slots of its epoch but the last, with requests of the client 1, and what its ledger is when a request is done there.
func lastSlot(t *testing.T, id int, q api.Request, first ...int) (*pair, *ledger.Ledger) {
	t.Helper()
	p := pairOf(t, id, first...)
	for slot := 1; slot < interval; slot++ {
		p.does(slot, slot, put(1, slot, "k", float64(slot)))
	}
	full := p.m.ledger.Copy()
	full.Do(q)
	return p, full
}

// At the epoch's end it votes, once, for what its ledger comes to and the members to be.
func TestTheVote(t *testing.T) {
	q := join(2, 1, 7)
	p, full := lastSlot(t, 2, q, 0, 1, 2, 3)
	p.proposes(4, 4, q)
	p.prepares(4, 4, q, 0, 1)
	p.expectNone(p.commits(4, 4, q, 0))
	vote := voteFor(2, full)
	p.expect(p.commits(4, 4, q, 1), append([]api.Packet{p.reply(0, q, api.Result{})}, p.to(p.rest(), vote)...)...)
	p.stands(0, 0, true, 4, leaves-6)
	p.expectNone(p.commits(4, 4, q, 3))
	p.expectNone(p.prepares(4, 4, q, 3))
	if !slices.Equal(vote.Next, []int{0, 1, 2, 3, 7}) || len(vote.Sigs) != 2 {
		t.Error(tellMsg(vote))
	}
}

// A vote's fields, byte by byte.
func TestTheVoteByteByByte(t *testing.T) {
	p := pairOf(t, 2, 0, 1, 2, 3)
	var out []api.Packet
	for slot := 1; slot <= interval; slot++ {
		out = p.does(slot, slot, null)
	}
	clients := ""
	for range 8 {
		clients += "\x00\x00\x00\x00\x00\x09\x00\x00\x00\x00\x00\x00\x00\x00\x00"
	}
	state := "L\x00\x08C\x00\x01\x04\x00\x01\x02\x03\x04\x00\x01\x02\x03\x00\x00\x00\x04\x00" + clients
	vote := api.Msg{Kind: api.MVote, Slot: 4, Text: state, Next: []int{0, 1, 2, 3}, Sigs: []api.Sig{
		{By: 2, Text: "S\x00\x00\x00\x04" + state}, {By: 2, Text: "C\x00\x01\x04\x00\x01\x02\x03"},
	}}
	p.expect(out[len(out)-3:], p.to(p.rest(), vote)...)
}

// With the third vote of four the next epoch begins; whoever votes behind that is late.
func TestTheNextEpoch(t *testing.T) {
	q := join(2, 1, 7)
	p, full := lastSlot(t, 2, q, 0, 1, 2, 3)
	p.does(4, 4, q)
	full.Turn()
	p.expectNone(p.votes(5, 0))
	p.stands(0, 0, true, 4, leaves-6)
	late := voteFor(3, p.m.ledger.Copy())
	p.expectNone(p.votes(5, 1))
	p.stands(1, 0, true, 4, leaves-6)
	if p.r.State() != full.Text() || p.r.Size() != 0 || len(p.r.History()) != 4 {
		t.Error(p.tell())
	}
	c := conf(1, 0, 1, 2, 3, 7)
	want := []api.Link{{Conf: c, Sigs: signatures(confText(c), 0, 1, 2)}}
	if got := p.r.Chain(); !slices.EqualFunc(got, want, isEqualLink) {
		t.Error(tellLinks(got))
	}
	p.expectNone(p.handle(6, 3, late))
	state := api.Msg{Kind: api.MState, Epoch: 1, Slot: 4, Text: full.Text(), Sigs: signatures(stateText(4, full.Text()), 0, 1, 2), Links: want}
	p.expect(p.handle(6, 9, fetchMsg(0)), api.Packet{From: 2, To: 9, Msg: state})
}

// The votes of others may come ahead of its own: with its own it goes over at once.
func TestVotesAheadOfItsOwn(t *testing.T) {
	q := put(2, 1, "l", 7)
	p, full := lastSlot(t, 2, q, 0, 1, 2, 3)
	p.expectNone(p.handle(4, 3, voteFor(3, full)))
	p.expectNone(p.handle(4, 0, voteFor(0, full)))
	p.proposes(5, 4, q)
	p.prepares(5, 4, q, 0, 1)
	p.commits(5, 4, q, 1)
	want := append([]api.Packet{p.reply(0, q, api.Result{Real: 7})}, p.to(p.rest(), voteFor(2, full))...)
	p.expect(p.commits(5, 4, q, 0), want...)
	p.stands(1, 0, true, 4, leaves-6)
	if got := p.r.Chain()[0].Sigs; !slices.Equal(got, signatures(confText(conf(1, 0, 1, 2, 3)), 0, 2, 3)) {
		t.Error(tellSigs(got))
	}
}

// Enough votes of others take one over who did less, and one who is no member.
func TestVotesOfOthersAlone(t *testing.T) {
	full := roadOf(0, 1, 2, 3).ledger
	full.Do(put(1, 1, "k", 2))
	full.Do(join(1, 2, 9))
	fill(full)
	after := full.Copy()
	after.Turn()
	for _, id := range []int{0, 3, 9, 15} {
		p := pairOf(t, id, 0, 1, 2, 3)
		by := p.rest()[:3]
		for i, from := range by {
			p.stands(0, 0, true, 0, leaves)
			p.expectNone(p.handle(i, from, voteFor(from, full)))
		}
		p.stands(1, 0, true, 4, leaves)
		if p.r.State() != after.Text() || len(p.r.History()) != 0 {
			t.Error(p.tell())
		}
	}
}

// Of each number of members as many votes alike settle as are a quorum.
func TestHowManyVotesSettle(t *testing.T) {
	for n := 4; n <= 10; n++ {
		members := spread(n)
		p := pairOf(t, members[0], members...)
		full := p.m.ledger.Copy()
		fill(full)
		by := p.rest()
		for i := range quorumOf(n) {
			p.stands(0, 0, true, 0, leaves)
			p.expectNone(p.handle(1, by[i], voteFor(by[i], full)))
		}
		p.stands(1, 0, true, 4, leaves)
	}
}

// Votes for unlike things don't settle, be it another state or other members.
func TestUnlikeVotes(t *testing.T) {
	p := pairOf(t, 9, 0, 1, 2, 3)
	full := p.m.ledger.Copy()
	fill(full)
	full.Turn()
	one := full.Text()
	p.handle(1, 0, voteMsg(0, 0, one, []int{0, 1, 2, 3}))
	p.handle(1, 1, voteMsg(1, 0, one, []int{0, 1, 2, 4}))
	p.handle(1, 2, voteMsg(2, 0, one+"x", []int{0, 1, 2, 3}))
	p.stands(0, 0, true, 0, leaves)
	p.handle(1, 3, voteMsg(3, 0, one, []int{0, 1, 2, 3}))
	p.stands(0, 0, true, 0, leaves)
}

// What a quorum settled that is no such ledger begins nothing, and stays so; a state may still come.
func TestWhatIsSettledAndIsntGood(t *testing.T) {
	r := walked(1, 0, 1, 2, 3)
	one := r.ledger.Copy()
	one.Do(null)
	full := roadOf(0, 1, 2, 3).ledger
	fill(full)
	later := walked(2, 0, 1, 2, 3).ledger
	joined := roadOf(0, 1, 2, 3).walk(join(1, 1, 7)).ledger
	members := []int{0, 1, 2, 3}
	for name, v := range map[string]api.Msg{
		"no ledger":          voteMsg(0, 0, "x", members),
		"a slot more":        voteMsg(0, 0, one.Text(), members),
		"another epoch":      voteMsg(0, 0, later.Text(), members),
		"the epoch's end":    voteMsg(0, 0, full.Text(), members),
		"the epoch itself":   voteMsg(0, 0, roadOf(0, 1, 2, 3).ledger.Text(), members),
		"other members":      voteMsg(0, 0, r.ledger.Text(), []int{0, 1, 2, 7}),
		"more members":       voteMsg(0, 0, r.ledger.Text(), []int{0, 1, 2, 3, 7}),
		"members who joined": voteMsg(0, 0, joined.Text(), members),
	} {
		p := pairOf(t, 2, 0, 1, 2, 3)
		for _, id := range []int{0, 1, 3} {
			p.expectNone(p.handle(1, id, voteMsg(id, 0, v.Text, v.Next)))
		}
		if p.r.Epoch() != 0 || len(p.r.Chain()) != 0 {
			t.Error(name, p.tell())
		}
		p.expectNone(p.handle(1, 9, fetchMsg(0)))
		p.does(2, 1, put(1, 1, "k", 2)) // it goes on, and looks again at what is settled
		p.stands(0, 0, true, 1, leaves-1)
		p.handle(3, 9, r.state())
		p.stands(1, 0, true, 4, leaves-1)
	}
}

// The vote behind the end says what the members are to be; those who joined and left come and go with the next epoch.
func TestMembersThatComeAndGo(t *testing.T) {
	p := pairOf(t, 2, 0, 1, 2, 3)
	p.does(1, 1, join(1, 1, 9))
	p.does(1, 2, join(2, 1, 5))
	p.does(1, 3, leave(3, 1, 0))
	p.does(1, 4, get(1, 2))
	p.votes(2, 0, 1)
	members := []int{1, 2, 3, 5, 9}
	if got := p.r.Chain(); len(got) != 1 || !slices.Equal(got[0].Conf.Members, members) {
		t.Fatal(tellLinks(got))
	}
	q := put(5, 1, "k", 2)
	p.expectNone(p.handle(3, 0, proposeMsg(1, 0, 5, q))) // it left; the member 1 leads
	p.expect(p.handle(3, 1, proposeMsg(1, 0, 5, q)), p.to([]int{1, 3, 5, 9}, prepareMsg(2, 1, 0, 5, q))...)
	p.expectNone(p.prepares(3, 5, q, 0, 9, 5))
	p.expect(p.prepares(3, 5, q, 3), p.to([]int{1, 3, 5, 9}, commitMsg(1, 0, 5, q))...) // four of five are a quorum
	p.expectNone(p.commits(3, 5, q, 9, 5, 0))
	p.expect(p.commits(3, 5, q, 1), p.reply(1, q, api.Result{Real: 2}))
}

// Who leaves is no member from the next epoch on: what waits is gone, its timer too; it tells and fetches.
func TestWhoLeaves(t *testing.T) {
	p := pairOf(t, 2, 0, 1, 2, 3)
	p.handle(0, 107, askMsg(put(7, 1, "k", 2)))
	p.does(1, 1, join(1, 1, 9))
	p.does(1, 2, leave(2, 1, 2))
	p.does(1, 3, null)
	p.does(1, 4, null)
	p.votes(2, 0, 1)
	p.stands(1, 0, true, 4, leaves-6)
	p.expect(p.ticks(3, 60)[:4], p.to([]int{0, 1, 3, 9}, fetchMsg(1))...)
	p.stands(1, 0, true, 4, leaves-6)
	p.expectNone(p.handle(61, 107, askMsg(put(7, 1, "k", 2))))
	full := p.m.ledger.Copy()
	full.Do(join(1, 2, 2))
	fill(full)
	for _, id := range []int{0, 1, 3, 9} {
		p.expectNone(p.handle(62, id, voteFor(id, full)))
	}
	p.stands(2, 0, true, 8, leaves-6) // it is a member again
	p.ticks(63, 90)
	p.stands(2, 0, true, 8, leaves-6)
	q := put(7, 2, "k", 2)
	p.handle(91, 107, askMsg(q))
	p.expect(p.proposes(91, 9, q), p.to([]int{0, 1, 3, 9}, prepareMsg(2, 2, 0, 9, q))...)
}

// Who joins learns by a state that it is a member, and goes on.
func TestWhoJoins(t *testing.T) {
	p := pairOf(t, 4, 0, 1, 2, 3)
	p.expect(p.tick(8), p.to([]int{0, 1, 2, 3}, fetchMsg(0))...)
	r := roadOf(0, 1, 2, 3).walk(join(1, 1, 4))
	p.expectNone(p.handle(9, 3, r.state()))
	q := put(1, 2, "k", 2)
	want := p.to([]int{0, 1, 2, 3}, prepareMsg(4, 1, 0, 5, q), commitMsg(1, 0, 5, q))
	p.expect(p.does(10, 5, q), append(want, p.reply(1, q, api.Result{Real: 2}))...)
	if got := p.r.History(); len(got) != 1 || got[0].Slot != 5 {
		t.Error(tellEntries(got))
	}
	if got := p.m.primary(4); got != 4 {
		t.Error(got)
	}
}

// Behind the epoch's end the primary proposes what waits: it is told in the same call.
func TestWhatWaitsAtTheNextEpoch(t *testing.T) {
	p := pairOf(t, 0, 0, 1, 2, 3)
	for client := 1; client <= clients; client++ {
		p.handle(1, node+client, askMsg(put(client, 1, "k", float64(client))))
	}
	for slot := 1; slot <= interval; slot++ {
		p.prepares(2, slot, put(slot, 1, "k", float64(slot)), 1, 2)
		p.commits(2, slot, put(slot, 1, "k", float64(slot)), 1, 2)
	}
	p.stands(0, 0, true, 4, leaves-6)
	p.expectNone(p.votes(3, 2))
	var said []api.Msg
	for client := 5; client <= clients; client++ {
		q := put(client, 1, "k", float64(client))
		said = append(said, proposeMsg(1, 0, client, q), prepareMsg(0, 1, 0, client, q))
	}
	p.expect(p.votes(3, 3), p.to(p.rest(), said...)...)
	p.stands(1, 0, true, 4, leaves-10)
}

// What waits isn't lost at the next epoch, unless it is done by then; the timer runs anew, and as at first.
func TestWhichRequestsWaitOn(t *testing.T) {
	for stamp := 1; stamp <= 4; stamp++ {
		p := pairOf(t, 2, 0, 1, 2, 3)
		p.changes(0, 1, 0, 3)
		p.changes(0, 5, 0, 3) // its timer has failed twice
		p.handle(0, 101, askMsg(put(1, stamp, "k", 2)))
		full := p.m.ledger.Copy()
		full.Do(put(1, 3, "k", 2))
		fill(full)
		for _, id := range []int{0, 1, 3} {
			p.handle(10, id, voteFor(id, full))
		}
		p.stands(1, 0, true, 4, leaves-2)
		p.ticks(11, 17)
		p.stands(1, 0, true, 4, leaves-2)
		p.tick(18)
		if gaveUp := p.r.View() == 1; gaveUp != (stamp > 3) {
			t.Error(stamp, p.tell())
		}
	}
}

// The first member of the next epoch leads it, whoever led before; in the same call it proposes what waits behind a state, too.
func TestWhoLeadsBehindAState(t *testing.T) {
	q, old := put(3, 4, "k", 2), put(1, 1, "k", 2)
	p := pairOf(t, 1, 0, 1, 2, 3)
	p.handle(1, 103, askMsg(q))
	p.handle(1, 101, askMsg(old))
	r := roadOf(0, 1, 2, 3).walk(join(2, 1, 9), leave(2, 2, 0), get(1, 1))
	p.expect(p.handle(2, 15, r.state()), p.to([]int{2, 3, 9}, proposeMsg(1, 0, 5, q), prepareMsg(1, 1, 0, 5, q))...)
	p.stands(1, 0, true, 4, leaves-1)
}

// Nothing of an epoch stays in the next one: no change, no vote, no certificate, nothing that it says, no view.
func TestWhatGoesWithTheEpoch(t *testing.T) {
	p := pairOf(t, 2, 0, 1, 2, 3)
	q := put(1, 1, "k", 2)
	p.does(1, 1, q)
	p.changes(1, 3, 0, 3) // it gives up, and says so
	p.handle(1, 1, voteMsg(1, 0, "x", []int{0, 1, 2, 3}))
	p.handle(2, 9, walked(1, 0, 1, 2, 3).state())
	p.stands(1, 0, true, 4, leaves-2)
	p.expect(p.tick(4), p.fetches()...)
	p.expectNone(p.changes(5, 1, 0)) // the first change of this epoch: it isn't enough
	p.stands(1, 0, true, 4, leaves-2)
	p.expect(p.changes(5, 1, 3), p.to(p.rest(), changeMsg(1, 2, 1))...)
	p.handle(6, 1, plainNewView(1, 1, 0, 1, 3))
	for slot := 5; slot <= 8; slot++ {
		p.does(6, slot, null)
	}
	p.stands(1, 1, true, 8, leaves-9) // four prepares, two signatures of its vote
	p.votes(7, 1)
	p.stands(1, 1, true, 8, leaves-9)
	p.votes(7, 0)
	p.stands(2, 0, true, 8, leaves-9)
}

// A vote is kept among what it says when the view changes, and there is no second one.
func TestTheVoteStaysThroughViews(t *testing.T) {
	p, full := lastSlot(t, 1, null, 0, 1, 2, 3)
	p.does(4, 4, null)
	vote := voteFor(1, full)
	p.changes(5, 1, 0, 3) // it leads in at once, and takes up all four slots
	p.stands(0, 1, true, 4, leaves-11)
	own := changeOf(0, 1, 1, p.m.changes[1].Certs...)
	if len(own.Certs) != 4 {
		t.Fatal(len(own.Certs))
	}
	p.expectNone(p.changes(5, 1, 2))
	said := append(p.to(p.rest(), vote), p.to(p.rest(), newViewMsg(0, 1, changeOf(0, 0, 1), own, changeOf(0, 3, 1)))...)
	for slot := 1; slot <= interval; slot++ {
		q := put(1, slot, "k", float64(slot))
		if slot == interval {
			q = null
		}
		said = append(said, p.to(p.rest(), prepareMsg(1, 0, 1, slot, q))...)
	}
	p.expect(p.tick(8), append(said, p.fetches()...)...)
	for slot := 1; slot <= interval; slot++ {
		q := put(1, slot, "k", float64(slot))
		if slot == interval {
			q = null
		}
		p.prepares(9, slot, q, 0, 2)
		p.expectNone(p.commits(9, slot, q, 0, 2))
	}
	p.stands(0, 1, true, 4, leaves-11)
}

// The ledger of the last epoch can't be turned: who did all of it is halted.
func TestTheLastEpoch(t *testing.T) {
	p := gone(t, 2, lastEpoch, 0, 1, 2, 3)
	p.stands(lastEpoch, 0, true, 240, leaves)
	for slot := 241; slot < 244; slot++ {
		p.does(slot, slot, put(1, slot, "k", 2))
	}
	q := put(1, 244, "k", 2)
	p.proposes(244, 244, q)
	p.prepares(244, 244, q, 0, 1)
	p.commits(244, 244, q, 0)
	p.expectNone(p.commits(244, 244, q, 1))
	p.stands(lastEpoch, 0, true, 244, leaves-4)
	if !p.r.Halted() || len(p.r.History()) != 4 {
		t.Error(p.tell())
	}
	p.expectNone(p.tick(248))
	p.expectNone(p.handle(249, 1, fetchMsg(0)))
}

// Epoch behind epoch to the last one, with whoever leads each: all of them are done by one replica.
func TestManyEpochs(t *testing.T) {
	p := pairOf(t, 5, 0, 5, 6, 7)
	epoch := 0
	for ; p.r.Left() >= 6; epoch++ {
		for i := range interval {
			p.does(epoch, interval*epoch+1+i, put(1+i, 1+epoch, "k", float64(epoch)))
		}
		p.votes(epoch, 0, 6)
		p.stands(epoch+1, 0, true, interval*(epoch+1), leaves-6*(epoch+1))
	}
	if epoch != 10 || len(p.r.Chain()) != 10 || len(p.r.History()) != 40 {
		t.Error(epoch, p.tell())
	}
}
