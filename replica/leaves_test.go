package replica_test

import (
	"testing"

	"witan/api"
	"witan/ledger"
)

// P18.1, P18.2: leaves down to none, and who is halted.

// spent answers one with so many leaves left, at the beginning of an epoch. It used the others for changes, at most fifteen an epoch.
func spent(t *testing.T, id, left int, members ...int) *pair {
	t.Helper()
	p := pairOf(t, id, members...)
	for p.r.Left() > left {
		if p.r.View() == lastView {
			p.handle(0, 15-id, walked(p.r.Epoch()+1, members...).state())
		}
		by := p.peers(weakOf(len(members)))
		p.changes(0, p.r.View()+1, by...)
	}
	p.handle(0, 15-id, walked(p.r.Epoch()+1, members...).state())
	if p.r.View() != 0 || !p.r.Active() || p.r.Left() != left || p.r.Halted() {
		t.Fatal(p.tell())
	}
	return p
}

// expectHalted holds one to be halted: whatever comes is answered by nothing, and changes nothing.
func (p *pair) expectHalted() {
	p.t.Helper()
	if !p.r.Halted() {
		p.fail("it isn't halted")
	}
	before := p.tell()
	epoch, view := p.m.epoch(), p.m.view
	slot := interval*epoch + 1
	members := p.m.members()
	for _, from := range p.rest() {
		for _, m := range []api.Msg{
			proposeMsg(epoch, view, slot, null), proposeMsg(epoch, view, slot+1, null), prepareMsg(from, epoch, view, slot, null), commitMsg(epoch, view, slot, null),
			changeMsg(epoch, from, lastView), plainNewView(epoch, lastView, members[:p.m.quorum()]...), fetchMsg(0), replyMsg(epoch, get(1, 1), api.Result{}),
		} {
			p.expectNone(p.handle(1000, from, m))
		}
		if epoch < lastEpoch {
			full := p.m.ledger.Copy()
			fill(full)
			p.expectNone(p.handle(1000, from, voteFor(from, full)))
			p.expectNone(p.handle(1000, from, walked(epoch+1, p.m.first.Members...).state()))
		}
	}
	for client := 1; client <= clients; client++ {
		p.expectNone(p.handle(1000, node+client, askMsg(put(client, 9, "k", 2))))
	}
	p.expectNone(p.ticks(1000, 1024))
	if p.tell() != before || !p.r.Halted() {
		p.fail("was %s and is %s", before, p.tell())
	}
}

// Each leaf but the last one serves as the first did.
func TestALeafLeft(t *testing.T) {
	p := spent(t, 2, 1, 0, 1, 2, 3)
	epoch := p.m.epoch()
	slot := interval*epoch + 1
	q := put(1, 1, "k", 2)
	want := p.to(p.rest(), prepareMsg(2, epoch, 0, slot, q), commitMsg(epoch, 0, slot, q))
	p.expect(p.does(1, slot, q), append(want, p.reply(epoch, q, api.Result{Real: 2}))...)
	p.stands(epoch, 0, true, slot, 0)
	if p.r.Halted() {
		t.Error("halted by its last leaf")
	}
	p.expect(p.tick(4), append(want, p.fetches()...)[0:9]...) // it tells what it said, and fetches
	p.expect(p.handle(5, 101, askMsg(q)), p.reply(epoch, q, api.Result{Real: 2}))
	p.expectNone(p.proposes(6, slot+1, null))
	p.stands(epoch, 0, true, slot, 0)
	p.expectHalted()
}

// To prepare: the proposal stands, and nothing is signed.
func TestNoLeafToPrepare(t *testing.T) {
	p := spent(t, 2, 0, 0, 1, 2, 3)
	epoch := p.m.epoch()
	slot := interval*epoch + 1
	p.expectNone(p.prepares(1, slot, null, 0, 1, 3))
	p.expectNone(p.commits(1, slot, null, 0, 1, 3))
	p.expectNone(p.proposes(1, slot, null))
	p.stands(epoch, 0, true, slot-1, 0)
	if p.r.Size() != 7 {
		t.Error(p.r.Size())
	}
	p.expectHalted()
}

// To propose: what it would have said isn't answered, either.
func TestNoLeafToPropose(t *testing.T) {
	p := spent(t, 0, 0, 0, 1, 2, 3)
	epoch := p.m.epoch()
	p.expectNone(p.handle(1, 101, askMsg(put(1, 1, "k", 2))))
	p.stands(epoch, 0, true, interval*epoch, 0)
	if p.r.Size() != 1 {
		t.Error(p.r.Size())
	}
	p.expectHalted()
}

// While several are proposed: those behind the one that couldn't be signed aren't even put into the log.
func TestNoLeafAmongProposals(t *testing.T) {
	for left := range 4 {
		p := spent(t, 1, left+1, 0, 1, 2, 3) // one for its change
		epoch := p.m.epoch()
		for client := 1; client <= interval; client++ {
			p.handle(1, node+client, askMsg(put(client, 1, "k", 2)))
		}
		p.changes(2, 1, 0)
		p.expectNone(p.changes(2, 1, 3))
		p.stands(epoch, 1, true, interval*epoch, 0)
		if p.r.Size() != 2*left+1 {
			t.Error(left, p.r.Size())
		}
		p.expectHalted()
	}
}

// While several are proposed again.
func TestNoLeafAmongWhatIsProposedAgain(t *testing.T) {
	for left := range 4 {
		p := spent(t, 2, left, 0, 1, 2, 3)
		epoch := p.m.epoch()
		slot := interval*epoch + interval
		cert := certOf(epoch, 0, slot, put(1, 1, "k", 2), 0, 1, 3)
		p.expectNone(p.handle(1, 1, newViewMsg(epoch, 1, changeOf(epoch, 0, 1), changeOf(epoch, 1, 1, cert), changeOf(epoch, 3, 1))))
		p.stands(epoch, 1, true, interval*epoch, 0)
		if p.r.Size() != 2*left+1 {
			t.Error(left, p.r.Size())
		}
		p.expectHalted()
	}
}

// To change the view, by changes or by the timer: it is in the view by then, and not active.
func TestNoLeafToChange(t *testing.T) {
	for _, byTime := range []bool{false, true} {
		p := spent(t, 2, 0, 0, 1, 2, 3)
		if byTime {
			p.handle(0, 101, askMsg(get(1, 1)))
			p.ticks(1, 7)
			p.expectNone(p.tick(8)) // it would have told, too
		} else {
			p.expectNone(p.changes(1, 1, 0, 3))
		}
		p.stands(p.m.epoch(), 1, false, interval*p.m.epoch(), 0)
		p.expectHalted()
	}
}

// The primary of the next view can't begin it without its own change, even if a quorum with that came.
func TestNoLeafToLeadIn(t *testing.T) {
	p := spent(t, 1, 0, 0, 1, 2, 3)
	p.changes(1, 1, 0)
	p.expectNone(p.changes(1, 1, 3))
	p.stands(p.m.epoch(), 1, false, interval*p.m.epoch(), 0)
	p.expectHalted()
}

// To vote, which takes two: what was done by then is done, and what it came to isn't told.
func TestNoLeafToVote(t *testing.T) {
	for left := range 2 {
		p := spent(t, 2, interval+left, 0, 1, 2, 3)
		epoch := p.m.epoch()
		first := interval*epoch + 1
		for slot := first; slot < first+3; slot++ {
			p.does(1, slot, put(1, slot, "k", 2))
		}
		p.proposes(2, first+3, get(2, 1))
		p.prepares(2, first+3, get(2, 1), 0, 1)
		p.commits(2, first+3, get(2, 1), 0)
		p.expectNone(p.commits(2, first+3, get(2, 1), 1))
		p.stands(epoch, 0, true, first+3, 0)
		if len(p.r.History()) != 4 {
			t.Error(p.tell())
		}
		p.expectHalted()
	}
}

// With as many as it needs it votes with its last leaf, and goes on as long as nothing is to be signed.
func TestTheLastLeafForAVote(t *testing.T) {
	p := spent(t, 2, interval+2, 0, 1, 2, 3)
	epoch := p.m.epoch()
	for i := range interval {
		p.does(1, interval*epoch+1+i, null)
	}
	p.stands(epoch, 0, true, interval*(epoch+1), 0)
	p.votes(2, 0, 3)
	p.stands(epoch+1, 0, true, interval*(epoch+1), 0)
	p.expect(p.tick(4), p.fetches()...)
	full := p.m.ledger.Copy()
	fill(full)
	for _, id := range []int{0, 1, 3} {
		p.handle(5, id, voteFor(id, full))
	}
	p.stands(epoch+2, 0, true, interval*(epoch+2), 0)
	p.expectNone(p.proposes(6, interval*(epoch+2)+1, null))
	p.expectHalted()
}

// Votes of others that came ahead don't take one over who is halted by its own.
func TestHaltedByItsVote(t *testing.T) {
	p := spent(t, 2, interval+1, 0, 1, 2, 3)
	epoch := p.m.epoch()
	full := p.m.ledger.Copy()
	fill(full)
	p.handle(1, 0, voteFor(0, full))
	p.handle(1, 1, voteFor(1, full))
	for i := range interval {
		p.does(1, interval*epoch+1+i, null)
	}
	p.stands(epoch, 0, true, interval*(epoch+1), 0)
	p.expectHalted()
}

// The same at the last epoch's end, where no leaf is used for a vote.
func TestHaltedAtTheLastEpoch(t *testing.T) {
	p := gone(t, 2, lastEpoch, 0, 1, 2, 3)
	for i := range interval {
		p.does(1, interval*lastEpoch+1+i, null)
	}
	p.stands(lastEpoch, 0, true, interval*(lastEpoch+1), leaves-interval)
	p.expectHalted()
}

// Beyond the last view: nothing of the next one is done, and no leaf is used.
func TestHaltedBeyondTheLastView(t *testing.T) {
	p := pairOf(t, 2, 0, 1, 2, 3)
	p.changes(0, lastView, 0, 1)
	p.stands(0, lastView, false, 0, leaves-1)
	p.ticks(1, 15)
	p.expectNone(p.tick(16))
	p.stands(0, lastView, false, 0, leaves-1)
	p.expectHalted()
}

// In the last view one may be active, and take up what is proposed.
func TestActiveInTheLastView(t *testing.T) {
	p := pairOf(t, 2, 0, 1, 2, 3)
	p.changes(0, lastView, 0, 1)
	p.handle(1, 3, plainNewView(0, lastView, 0, 1, 3))
	p.stands(0, lastView, true, 0, leaves-1)
	q := put(1, 1, "k", 2)
	want := p.to(p.rest(), prepareMsg(2, 0, lastView, 1, q), commitMsg(0, lastView, 1, q))
	p.expect(p.does(2, 1, q), append(want, p.reply(0, q, api.Result{Real: 2}))...)
	p.handle(3, 101, askMsg(put(1, 2, "k", 2)))
	p.ticks(4, 10)
	p.stands(0, lastView, true, 1, leaves-2)
	p.tick(11)
	p.expectHalted()
}

// Sixty-four texts and no more, whatever they are: changes, prepares and votes together.
func TestAllLeaves(t *testing.T) {
	p := pairOf(t, 2, 0, 1, 2, 3)
	signed := 0
	for !p.r.Halted() {
		epoch := p.m.epoch()
		if epoch%3 == 1 && p.r.View() == 0 {
			p.changes(epoch, 1, 0, 3)
			p.handle(epoch, 1, plainNewView(epoch, 1, 0, 1, 3))
		}
		var full *ledger.Ledger
		for i := range interval {
			p.does(epoch, interval*epoch+1+i, null)
		}
		if full = p.m.ledger; full.Full() {
			p.votes(epoch, 0, 1, 3)
		}
	}
	signed = len(p.signs)
	if p.r.Left() != 0 || signed > leaves || signed < leaves-1 {
		t.Error(p.r.Left(), signed)
	}
	p.expectHalted()
}
