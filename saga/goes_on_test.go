package saga_test

import (
	"slices"
	"testing"

	"witan/api"
	"witan/ledger"
	"witan/saga"
)

// W6: it goes on where all arrives. W5: who has no leaf, view or epoch left halts, and all holds still.

// rounds lets so many ticks of all go by, in which all arrives.
func (w *town) rounds(ticks int) {
	w.t.Helper()
	for range ticks {
		w.must(tick(-1), flush(8))
	}
}

// expectAccepted lets a client ask, and holds that behind eight rounds and at most so many ticks it has accepted what came of that in the log's last slot.
func (w *town) expectAccepted(client int, o api.Op, ticks int) *saga.Saga {
	w.t.Helper()
	before := len(w.w.Client(client).Accepted())
	w.must(ask(client, o), flush(8))
	for range ticks {
		if len(w.w.Client(client).Accepted()) > before {
			break
		}
		w.rounds(1)
	}
	s := w.expectWhole()
	q := w.asked[len(w.asked)-1]
	results := w.w.Client(client).Results()
	slot, want, ok := s.Outcome(q)
	if len(results) != before+1 || !ok || slot != s.Len() || tell(results[before]) != tell(want) {
		w.fail("the client %d has accepted %v, and %v came in %d to %v, %t", client, results, q, slot, want, ok)
	}
	return s
}

// With nobody bad each request is accepted within eight rounds and four ticks, in epochs with members that come and go.
func TestItGoesOnWithNobodyBad(t *testing.T) {
	for n := 4; n <= 10; n++ {
		w := townOf(t, int64(n), firstOf(n), 16, 8)
		for i := range 40 {
			s := w.expectAccepted(1+i%clients, anyOp(w.Rand), 4)
			if s.Len() != i+1 || !s.Sound(nil) {
				t.Fatal(n, i, s.Len())
			}
			w.rounds(4)
		}
		s := w.expectWhole()
		for _, id := range w.w.Clients() {
			if w.w.Client(id).Epoch() != 10 {
				t.Error(n, id, w.w.Client(id).Epoch())
			}
		}
		last, _ := s.Conf(10)
		for _, id := range last.Members {
			if r := w.w.Replica(id); r.Done() != 40 || r.Epoch() != 10 || r.View() != 0 {
				t.Error(n, id, r.Done(), r.Epoch(), r.View())
			}
		}
	}
}

// All clients ask at once, which takes two epochs: four are answered at once, and the others, who learn of the second epoch behind four ticks, when they ask again behind that.
func TestItGoesOnWhereAllAskAtOnce(t *testing.T) {
	for n := 4; n <= 10; n++ {
		w := townOf(t, int64(n), firstOf(n), n, clients)
		for i := range 5 {
			for client := 1; client <= clients; client++ {
				w.must(ask(client, add("k", anyReal(w.Rand))))
			}
			w.must(flush(8))
			if got := w.accepted(); got < clients*i+interval {
				t.Error(n, i, "at once only", got)
			}
			w.rounds(8)
			s := w.expectWhole()
			if got := w.accepted(); got != clients*(i+1) || s.Len() != got {
				t.Error(n, i, got, s.Len())
			}
		}
	}
}

// accepted answers how many requests are accepted in all.
func (w *town) accepted() int {
	n := 0
	for _, id := range w.w.Clients() {
		n += len(w.w.Client(id).Accepted())
	}
	return n
}

// With one silent member of four, whoever that is, each request is accepted within 24 ticks: be it that it is bad and says nothing, or that it isn't there.
func TestItGoesOnWithOneSilent(t *testing.T) {
	towns := []*town{townOf(t, 9, firstOf(4), 3, 3)} // 3 isn't there
	for silent := range 4 {
		towns = append(towns, townOf(t, int64(silent), firstOf(4), 4, 3, silent))
	}
	for _, w := range towns {
		for i := range 14 {
			o := []api.Op{put("k", anyReal(w.Rand)), add("k", anyReal(w.Rand)), get("k"), leave(1)}[w.Intn(4)]
			if s := w.expectAccepted(1+i%3, o, 24); s.Len() < i+1 {
				t.Fatal(i, s.Len())
			}
		}
	}
}

// The members use their leaves up: six an epoch, and with the last ones all halt in the eleventh, whatever is asked of them behind that.
func TestNoLeafIsLeft(t *testing.T) {
	w := townOf(t, 1, firstOf(4), 4, 8)
	for i := range 44 {
		w.must(ask(1+i%clients, put("k", float64(i))), flush(8))
		w.rounds(4)
	}
	s := w.expectWhole()
	want, _ := s.State(44, false)
	for range 2 {
		for id := range 4 {
			if r := w.w.Replica(id); !r.Halted() || r.Left() != 0 || r.Done() != 44 || r.Epoch() != 10 || r.State() != want {
				t.Error(id, r.Halted(), r.Left(), r.Done(), r.Epoch())
			}
		}
		for id := 1; id <= clients; id++ {
			w.move(ask(id, put("k", 1)))
		}
		w.must(flush(8))
		w.rounds(20)
	}
	if s = w.expectWhole(); s.Len() != 44 {
		t.Error(s.Len())
	}
	if _, ok := s.Conf(11); !ok { // it would follow, and nobody is left to sign it
		t.Error("no eleventh configuration")
	}
}

// loseAll loses all that is under way.
func (w *town) loseAll() {
	w.t.Helper()
	for w.w.Len() > 0 {
		w.must(drop(0))
	}
}

// Nothing arrives any more: each member goes through all views, and halts where there is none left.
func TestNoViewIsLeft(t *testing.T) {
	w := townOf(t, 1, firstOf(4), 4, 2, 3)
	w.expectAccepted(1, put("k", 1), 0)
	w.must(ask(2, put("k", 2)))
	for range 4 {
		w.must(deliver(0))
	}
	w.loseAll()
	views := 0
	for i := range 8000 {
		w.must(tick(-1))
		w.loseAll()
		if view := w.w.Replica(1).View(); view > views || i%1000 == 0 {
			views = view
			w.expectWhole()
		}
	}
	s := w.expectWhole()
	want, _ := s.State(1, false)
	for id := range 3 {
		signed := 1 + 15 // what it prepared, and a change a view
		if id == 0 {
			signed++ // it led, and prepared what was lost
		}
		if r := w.w.Replica(id); !r.Halted() || r.View() != 15 || r.Left() != leaves-signed || r.State() != want || r.Active() {
			t.Error(id, r.Halted(), r.View(), r.Left())
		}
	}
	if s.Len() != 1 {
		t.Error(s.Len())
	}
}

// longTown is a town that goes on to the last slot that there may be. Two honest members at a time and the bad one sign; the fourth isn't there. Each pair has leaves for nine epochs.
type longTown struct {
	*town
	l *ledger.Ledger // as the bad member has it
}

const badOne, noOne = 15, 14

func TestNoEpochIsLeft(t *testing.T) {
	w := &longTown{town: townOf(t, 1, []int{0, 1, noOne, badOne}, 14, 1, badOne)}
	w.l, _ = ledger.New(conf(0, w.first...))
	for epoch := range lastEpoch + 1 {
		members := w.l.Conf().Members
		steps := []api.Op{put("k", float64(epoch)), add("k", 1), get("k"), put("m", anyReal(w.Rand))}
		if epoch%9 == 8 {
			steps = []api.Op{join(members[0] + 2), join(members[0] + 3), leave(members[0]), leave(members[1])}
		}
		for i, o := range steps {
			w.slot(interval*epoch+i+1, members[:2], o)
		}
		w.vote(members[:2])
		w.rounds(4)
		s := w.expectWhole()
		if want, _ := s.Conf(epoch); s.Len() != interval*(epoch+1) || !slices.Equal(want.Members, members) {
			t.Fatal(epoch, s.Len(), want)
		}
	}
	s := w.expectWhole()
	want, _ := s.State(maxSlot, false)
	if _, ok := s.State(maxSlot, true); ok || s.Len() != maxSlot || want != w.l.Text() {
		t.Error(s.Len(), ok)
	}
	for _, id := range w.l.Conf().Members[:2] {
		if r := w.w.Replica(id); !r.Halted() || r.Left() == 0 || r.Epoch() != lastEpoch || r.Done() != maxSlot || r.State() != want {
			t.Error(id, r.Halted(), r.Left(), r.Epoch(), r.Done())
		}
	}
	if c := w.w.Client(1); len(c.Accepted()) != maxSlot-1 || c.Epoch() != lastEpoch { // who halts doesn't answer what it did in that call
		t.Error(len(c.Accepted()), c.Epoch())
	}
}

// slot lets the client ask for what comes into the slot, and the bad member prepare and commit it.
func (w *longTown) slot(slot int, members []int, o api.Op) {
	w.t.Helper()
	w.must(ask(1, o), flush(3))
	q := w.asked[len(w.asked)-1]
	epoch := (slot - 1) / interval
	for _, id := range members {
		w.must(inject(badOne, id, prepareMsg(badOne, epoch, 0, slot, q)), inject(badOne, id, commitMsg(epoch, 0, slot, q)))
	}
	w.must(flush(5))
	w.l.Do(q)
}

// vote lets the bad member vote for what follows, where another epoch does.
func (w *longTown) vote(members []int) {
	w.t.Helper()
	slot := w.l.Done()
	if w.l.Turn() != api.OK {
		return
	}
	for _, id := range members {
		w.must(inject(badOne, id, voteMsg(badOne, slot, w.l.Text(), w.l.Conf())))
	}
	w.must(flush(8))
}
