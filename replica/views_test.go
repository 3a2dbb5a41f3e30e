package replica_test

import (
	"testing"

	"witan/api"
)

// P18.1: how a view is given up, and how the next one begins.

// By the timer: it goes to the view behind, says its change, and waits twice as long.
func TestGivingUpByTheTimer(t *testing.T) {
	p := pairOf(t, 3, 0, 1, 2, 3)
	p.handle(5, 101, askMsg(put(1, 1, "k", 2)))
	p.expect(p.tick(12), p.fetches()...)
	p.expect(p.tick(13), p.to(p.rest(), changeMsg(0, 3, 1))...)
	p.stands(0, 1, false, 0, leaves-1)
	p.ticks(14, 28)
	p.stands(0, 1, false, 0, leaves-1)
	p.expect(p.tick(29), p.to(p.rest(), changeMsg(0, 3, 2))...)
	p.stands(0, 2, false, 0, leaves-2)
	p.ticks(30, 60)
	p.stands(0, 2, false, 0, leaves-2)
	p.tick(61)
	p.stands(0, 3, false, 0, leaves-3)
}

// Time may leap: it gives up one view a tick.
func TestTimeThatLeaps(t *testing.T) {
	p := pairOf(t, 2, 0, 1, 2, 3)
	p.handle(5, 101, askMsg(put(1, 1, "k", 2)))
	p.tick(999)
	p.stands(0, 1, false, 0, leaves-1)
	p.tick(999)
	p.tick(1014)
	p.stands(0, 1, false, 0, leaves-1)
	p.tick(1015)
	p.stands(0, 2, false, 0, leaves-2)
}

// Up to the last view, and then it is halted: each wait is twice the last one, 512 at most.
func TestGivingUpAllViews(t *testing.T) {
	p := pairOf(t, 9, 0, 4, 8, 9, 12, 15)
	p.handle(0, 101, askMsg(put(1, 1, "k", 2)))
	now, wait := 0, 8
	for view := 1; view <= lastView; view++ {
		p.tick(now + wait - 1)
		p.stands(0, view-1, view == 1, 0, leaves-view+1)
		now += wait
		p.tick(now)
		p.stands(0, view, false, 0, leaves-view)
		wait = min(2*wait, 512)
	}
	p.tick(now + wait - 1)
	if p.r.Halted() {
		t.Error("halted too early")
	}
	p.expectNone(p.tick(now + wait))
	p.stands(0, lastView, false, 0, leaves-lastView)
	if !p.r.Halted() {
		t.Error("not halted")
	}
	p.expectNone(p.tick(now + wait + 4))
}

// A tick that gives up and tells: first what it says for the first time, then all that it says again.
func TestATickThatGivesUpAndTells(t *testing.T) {
	p := pairOf(t, 3, 0, 1, 2, 3)
	p.handle(8, 101, askMsg(put(1, 1, "k", 2)))
	change := p.to(p.rest(), changeMsg(0, 3, 1))
	want := append(append([]api.Packet{}, change...), change...)
	p.expect(p.tick(16), append(want, p.fetches()...)...)
}

// By a weak quorum of changes: not by one of four.
func TestGivingUpByChanges(t *testing.T) {
	for n := 4; n <= 10; n++ {
		members := spread(n)
		p := pairOf(t, members[n-1], members...)
		by := p.peers(n - 1)
		need := weakOf(n)
		p.expectNone(p.changes(1, 2, by[:need-1]...))
		p.stands(0, 0, true, 0, leaves)
		p.expect(p.changes(1, 2, by[need-1]), p.to(p.rest(), changeMsg(0, p.m.id, 2))...)
		p.stands(0, 2, false, 0, leaves-1)
		p.expectNone(p.changes(1, 2, by[need:]...))
		p.ticks(2, 16)
		p.stands(0, 2, false, 0, leaves-1)
		p.tick(17) // its timer has failed once
		p.stands(0, 3, false, 0, leaves-2)
	}
}

// It goes to the greatest view of which, or of greater ones, changes of a weak quorum came; its own counts, too.
func TestToWhichViewOneGoes(t *testing.T) {
	rows := []struct {
		views []int // of 0, 1, 2 and so on, one after the other
		want  int
	}{
		{[]int{1}, 0}, {[]int{1, 1}, 1}, {[]int{1, 5}, 1}, {[]int{5, 1}, 1}, {[]int{5, 3, 4}, 4}, {[]int{3, 5, 4}, 4},
		{[]int{15, 15}, 15}, {[]int{1, 15, 14}, 14},
	}
	for _, row := range rows {
		p := pairOf(t, 9, 0, 1, 2, 9)
		for id, view := range row.views {
			p.changes(1, view, id)
		}
		if p.r.View() != row.want {
			t.Error(row.views, p.r.View(), row.want)
		}
	}
	p := pairOf(t, 9, 0, 1, 2, 8, 9, 12, 15) // seven members, of which three are a weak quorum
	p.changes(1, 4, 0)
	p.changes(1, 6, 1)
	p.stands(0, 0, true, 0, leaves)
	p.changes(1, 2, 2)
	p.stands(0, 2, false, 0, leaves-1)
	p.changes(1, 5, 8)
	p.stands(0, 4, false, 0, leaves-2) // of 4, 5 and 6
	p.changes(1, 7, 12)
	p.stands(0, 5, false, 0, leaves-3)
	p.changes(1, 7, 15)
	p.stands(0, 6, false, 0, leaves-4)
	p.changes(1, 15, 0, 1)
	p.stands(0, 7, false, 0, leaves-5)
}

// A member's later change counts instead of its earlier one, and the other way round it is refused.
func TestChangesOfOneMember(t *testing.T) {
	p := pairOf(t, 9, 0, 1, 2, 9)
	for _, view := range []int{2, 2, 3, 1, 3, 2} {
		p.expectNone(p.changes(1, view, 0))
	}
	p.changes(1, 5, 1)
	p.stands(0, 3, false, 0, leaves-1)
}

// With its own change it needs fewer of the others: who gave up by itself goes on with one more of four.
func TestItsOwnChangeCounts(t *testing.T) {
	p := pairOf(t, 3, 0, 1, 2, 3)
	p.handle(0, 101, askMsg(put(1, 1, "k", 2)))
	p.tick(9)
	p.stands(0, 1, false, 0, leaves-1)
	p.changes(10, 1, 2)
	p.stands(0, 1, false, 0, leaves-1)
	p.changes(10, 7, 2)
	p.stands(0, 1, false, 0, leaves-1)
	p.changes(10, 6, 0)
	p.stands(0, 6, false, 0, leaves-2)
}

// The change tells what was prepared: of each slot its certificate, of whatever view.
func TestCertificatesInAChange(t *testing.T) {
	p := pairOf(t, 2, 0, 1, 2, 3)
	one, three, other := put(1, 1, "k", 1), put(3, 1, "k", 3), put(4, 1, "k", 4)
	p.proposes(1, 3, three)
	p.prepares(1, 3, three, 0, 1, 3)
	p.proposes(1, 1, one)
	p.prepares(1, 1, one, 3, 1)
	p.proposes(1, 2, other)
	p.prepares(1, 2, other, 3)
	first := []api.Cert{certOf(0, 0, 1, one, 1, 2, 3), certOf(0, 0, 3, three, 0, 1, 2)}
	change := changeMsg(0, 2, 5, first...)
	p.expect(p.changes(2, 5, 0, 1), p.to(p.rest(), change)...)
	p.expectNone(p.handle(2, 1, plainNewView(0, 5, 0, 1, 3)))
	p.proposes(3, 3, other)
	p.prepares(3, 3, other, 0, 1)
	change = changeMsg(0, 2, 7, first[0], certOf(0, 5, 3, other, 0, 1, 2))
	p.expect(p.changes(4, 7, 0, 1), p.to(p.rest(), change)...)
}

// A new view without certificates: nothing is proposed again, and the epoch's first slot is the next one.
func TestAViewWithoutCertificates(t *testing.T) {
	q := put(1, 1, "k", 2)
	for epoch := range 3 {
		slot := interval*epoch + 1
		p := gone(t, 2, epoch, 0, 1, 2, 3)
		p.proposes(1, slot, q) // of the view before: it is gone
		p.expectNone(p.handle(1, 101, askMsg(q)))
		p.expectNone(p.handle(2, 1, plainNewView(epoch, 1, 0, 1, 3)))
		p.stands(epoch, 1, true, slot-1, leaves-1)
		if p.r.Size() != 0 {
			t.Error(p.r.Size())
		}
		p.expectNone(p.handle(2, 0, proposeMsg(epoch, 1, slot, q))) // not the primary any more
		p.expect(p.handle(2, 1, proposeMsg(epoch, 1, slot, q)), p.to(p.rest(), prepareMsg(2, epoch, 1, slot, q))...)
	}
}

// A new view with certificates: each slot up to the last one is proposed and prepared again, null where there is none; the greatest view counts, and the first of those.
func TestAViewWithCertificates(t *testing.T) {
	a, b, c := put(1, 1, "a", 1), put(2, 1, "b", 2), put(3, 1, "c", 3)
	p := pairOf(t, 2, 0, 1, 2, 3)
	list := []api.Change{
		changeOf(0, 0, 5, certOf(0, 1, 1, a, 0, 1, 2), certOf(0, 4, 3, b, 0, 1, 2)),
		changeOf(0, 1, 5, certOf(0, 2, 1, b, 0, 1, 3), certOf(0, 3, 3, a, 0, 1, 2)),
		changeOf(0, 3, 5, certOf(0, 2, 1, c, 1, 2, 3)),
	}
	want := p.to(p.rest(), prepareMsg(2, 0, 5, 1, b), prepareMsg(2, 0, 5, 2, null), prepareMsg(2, 0, 5, 3, b))
	p.expect(p.handle(1, 1, newViewMsg(0, 5, list...)), want...)
	p.stands(0, 5, true, 0, leaves-3)
	if p.r.Size() != 6 {
		t.Error(p.r.Size())
	}
	p.expectNone(p.handle(1, 1, proposeMsg(0, 5, 3, a)))
	p.expect(p.handle(1, 1, proposeMsg(0, 5, 4, a)), p.to(p.rest(), prepareMsg(2, 0, 5, 4, a))...)
}

// A certificate of the last slot: all four are proposed again, and no slot is left.
func TestAViewWhoseSlotsAreAllProposedAgain(t *testing.T) {
	q, other := put(1, 1, "k", 2), put(2, 1, "k", 3)
	p := pairOf(t, 1, 0, 1, 2, 3)
	p.handle(0, 102, askMsg(other))
	cert := certOf(0, 0, 4, q, 0, 1, 2)
	p.changes(1, 1, 0)
	out := p.handle(1, 3, changeMsg(0, 3, 1, cert))
	own := changeOf(0, 1, 1)
	begin := newViewMsg(0, 1, changeOf(0, 0, 1), own, changeOf(0, 3, 1, cert))
	p.expect(out, p.to(p.rest(),
		changeMsg(0, 1, 1), begin,
		prepareMsg(1, 0, 1, 1, null), prepareMsg(1, 0, 1, 2, null), prepareMsg(1, 0, 1, 3, null), prepareMsg(1, 0, 1, 4, q))...)
	p.stands(0, 1, true, 0, leaves-5)
	if p.r.Size() != 8 {
		t.Error(p.r.Size())
	}
}

// The primary of a view leads in with the first quorum of changes, by members, and its own among them, whoever came first.
func TestLeadingIn(t *testing.T) {
	for n := 4; n <= 10; n++ {
		members := spread(n)
		p := pairOf(t, members[1], members...)
		by := p.peers(n - 1)
		var came []int
		for i := n - 2; i >= 0; i-- { // the last ones come first
			before := p.r.Active() && p.r.View() == 1
			out := p.changes(1, 1, by[i])
			came = append(came, by[i])
			if len(came) != quorumOf(n)-1 {
				if len(came) != weakOf(n) && len(out) > 0 {
					t.Error(n, len(came), tellBriefly(out))
				}
				continue
			}
			if before || !p.r.Active() || p.r.View() != 1 {
				t.Error(n, p.tell())
			}
			var list []api.Change
			for _, id := range members {
				for _, other := range append(came, p.m.id) {
					if other == id {
						list = append(list, changeOf(0, id, 1))
					}
				}
			}
			begin := p.to(p.rest(), newViewMsg(0, 1, list...))
			if len(came) == weakOf(n) { // it gave up in the same call
				begin = append(p.to(p.rest(), changeMsg(0, p.m.id, 1)), begin...)
			}
			p.expect(out, begin...)
		}
		p.stands(0, 1, true, 0, leaves-1)
	}
}

// Where more than a quorum of changes came by the time that it leads, the first ones of them count.
func TestLeadingInWithMoreThanAQuorum(t *testing.T) {
	members := []int{0, 1, 2, 3, 4, 5, 6}
	p := pairOf(t, 5, members...)
	// Of seven members five are a quorum, and three a weak one: with two of the view 5 and others beyond it goes further at once, so that its own is the last.
	q := put(1, 1, "k", 2)
	p.handle(0, 101, askMsg(q))
	p.changes(1, 5, 6, 4)
	p.stands(0, 0, true, 0, leaves)
	p.changes(1, 5, 3)
	p.stands(0, 5, false, 0, leaves-1)
	out := p.changes(1, 5, 0)
	list := []api.Change{changeOf(0, 0, 5), changeOf(0, 3, 5), changeOf(0, 4, 5), changeOf(0, 5, 5), changeOf(0, 6, 5)}
	p.expect(out, p.to(p.rest(), newViewMsg(0, 5, list...), proposeMsg(0, 5, 1, q), prepareMsg(5, 0, 5, 1, q))...)
	p.expectNone(p.changes(1, 5, 1, 2))
}

// Changes of other views than its own count for no beginning of it.
func TestLeadingInNeedsChangesOfTheView(t *testing.T) {
	p := pairOf(t, 1, 0, 1, 2, 3)
	p.handle(0, 101, askMsg(put(1, 1, "k", 2)))
	p.tick(9)
	p.stands(0, 1, false, 0, leaves-1)
	p.expectNone(p.changes(10, 1, 0))
	p.expectNone(p.changes(10, 5, 0)) // instead of its one for the view 1
	p.expectNone(p.changes(10, 1, 2))
	p.stands(0, 1, false, 0, leaves-1)
	p.changes(10, 1, 3)
	p.stands(0, 1, true, 0, leaves-2) // 1, 2 and 3: it begins, and proposes what waits
}

// Who isn't the primary of the view doesn't begin it, whatever came.
func TestWhoDoesntLeadIn(t *testing.T) {
	p := pairOf(t, 2, 0, 1, 2, 3)
	p.changes(1, 1, 0, 1, 3)
	p.stands(0, 1, false, 0, leaves-1)
	p.expectNone(p.handle(2, 3, plainNewView(0, 1, 0, 1, 3)))
	p.stands(0, 1, false, 0, leaves-1)
	p.expectNone(p.handle(2, 1, plainNewView(0, 1, 0, 1, 3)))
	p.stands(0, 1, true, 0, leaves-1)
}

// Behind what is proposed again the primary proposes what waits, but not what is the same as a proposal.
func TestWhatThePrimaryOfANewViewProposes(t *testing.T) {
	a, b, c, d := put(1, 1, "a", 1), put(2, 1, "b", 2), put(3, 1, "c", 3), put(4, 1, "d", 4)
	p := pairOf(t, 1, 0, 1, 2, 3)
	for _, q := range []api.Request{d, c, b, a} {
		p.expectNone(p.handle(0, node+q.Client, askMsg(q)))
	}
	cert := certOf(0, 0, 2, c, 0, 2, 3)
	p.changes(1, 1, 0)
	out := p.handle(1, 3, changeMsg(0, 3, 1, cert))
	begin := newViewMsg(0, 1, changeOf(0, 0, 1), changeOf(0, 1, 1), changeOf(0, 3, 1, cert))
	p.expect(out, p.to(p.rest(),
		changeMsg(0, 1, 1), begin,
		prepareMsg(1, 0, 1, 1, null), prepareMsg(1, 0, 1, 2, c),
		proposeMsg(0, 1, 3, a), prepareMsg(1, 0, 1, 3, a),
		proposeMsg(0, 1, 4, b), prepareMsg(1, 0, 1, 4, b))...)
}

// What waits isn't proposed by who isn't active: it waits till the view begins.
func TestRequestsWhileNotActive(t *testing.T) {
	q := put(1, 1, "k", 2)
	p := pairOf(t, 1, 0, 1, 2, 3)
	p.handle(0, 102, askMsg(get(2, 1)))
	p.tick(8)
	p.expectNone(p.handle(9, 101, askMsg(q)))
	p.expectNone(p.changes(10, 1, 2))
	out := p.changes(10, 1, 3)
	begin := plainNewView(0, 1, 1, 2, 3)
	p.expect(out, p.to(p.rest(), begin, proposeMsg(0, 1, 1, q), prepareMsg(1, 0, 1, 1, q), proposeMsg(0, 1, 2, get(2, 1)), prepareMsg(1, 0, 1, 2, get(2, 1)))...)
}

// What was done in an earlier view is prepared and committed again, and isn't done again.
func TestWhatWasDoneInAnEarlierView(t *testing.T) {
	q := put(1, 1, "k", 2)
	p := pairOf(t, 2, 0, 1, 2, 3)
	p.does(1, 1, q)
	cert := certOf(0, 0, 1, q, 0, 1, 2)
	p.handle(2, 1, newViewMsg(0, 1, changeOf(0, 0, 1, cert), changeOf(0, 1, 1), changeOf(0, 3, 1)))
	p.expect(p.prepares(3, 1, q, 0, 1), p.to(p.rest(), commitMsg(0, 1, 1, q))...)
	p.expectNone(p.commits(3, 1, q, 0, 1, 3))
	p.stands(0, 1, true, 1, leaves-2)
	if got := p.r.History(); len(got) != 1 {
		t.Error(tellEntries(got))
	}
}

// The timer of a view that began: it runs anew if a request waits, and as long as it failed to.
func TestTheTimerOfANewView(t *testing.T) {
	for _, waits := range []bool{false, true} {
		p := pairOf(t, 2, 0, 1, 2, 3)
		if waits {
			p.handle(0, 101, askMsg(put(1, 1, "k", 2)))
		}
		p.changes(1, 1, 0, 3)
		p.handle(7, 1, plainNewView(0, 1, 0, 1, 3))
		p.ticks(8, 22)
		p.stands(0, 1, true, 0, leaves-1)
		p.tick(23)
		if p.r.Active() == waits {
			t.Error(waits, p.tell())
		}
	}
	// Something is done: it waits as at first again.
	p := pairOf(t, 2, 0, 1, 2, 3)
	p.changes(1, 1, 0, 3)
	p.handle(7, 1, plainNewView(0, 1, 0, 1, 3))
	p.does(8, 1, null)
	p.handle(8, 101, askMsg(put(1, 1, "k", 2)))
	p.ticks(9, 15)
	p.stands(0, 1, true, 1, leaves-2)
	p.tick(16)
	p.stands(0, 2, false, 1, leaves-3)
}

// In each view one and the same slot is prepared anew, be it as another's proposal or as its own.
func TestPreparedAnewInEachView(t *testing.T) {
	p := pairOf(t, 9, 0, 1, 2, 9, 12)
	for view := range lastView + 1 {
		q := put(1, 1+view, "k", 2)
		if p.m.primary(view) != 9 {
			if view > 0 {
				p.enters(view, view)
			}
			p.expect(p.proposes(view, 1, q), p.to(p.rest(), prepareMsg(9, 0, view, 1, q))...)
			continue
		}
		p.handle(view, 101, askMsg(q))
		p.changes(view, view, 0, 1)
		want := p.to(p.rest(), plainNewView(0, view, 0, 1, 2, 9), proposeMsg(0, view, 1, q), prepareMsg(9, 0, view, 1, q))
		p.expect(p.changes(view, view, 2), want...)
	}
}
