package saga_test

import (
	"slices"
	"testing"

	"witan/api"
	"witan/lineage"
	"witan/saga"
)

// W1 to W5: what honest replicas and clients tell is what follows from their merged histories, of any world whose epochs have no more bad members than faults.

// expectWhole holds all of it, and answers what follows; nil, if more are bad than may be: of such a world nothing is promised.
func (w *town) expectWhole() *saga.Saga {
	w.t.Helper()
	s := w.saga()
	if !s.Sound(w.bad) {
		return nil
	}
	w.expectOneState(s)
	w.expectOneChain(s)
	w.expectTrueAnswers(s)
	w.expectBounds()
	return s
}

// saga answers what follows from the common log, W1: no two honest replicas did unlike requests in one slot, and of each slot somebody did one. What was in the log stays there.
func (w *town) saga() *saga.Saga {
	w.t.Helper()
	var histories [][]api.Entry
	for _, id := range w.w.Replicas() {
		histories = append(histories, w.w.Replica(id).History())
	}
	log, e := saga.Merge(histories)
	if e != api.OK {
		w.fail("the histories aren't of one log: %d; %v", e, histories)
	}
	if len(log) < len(w.log) || tell(log[:len(w.log)]) != tell(w.log) {
		w.fail("the log was %v, and is %v", w.log, log)
	}
	w.log = log
	s, e := saga.New(conf(0, w.first...), log)
	if e != api.OK {
		w.fail("nothing follows from the log: %d", e)
	}
	return s
}

// expectOneState holds W2: each state is that of the log as far as it was done.
func (w *town) expectOneState(s *saga.Saga) {
	w.t.Helper()
	for _, id := range w.w.Replicas() {
		r := w.w.Replica(id)
		hasTurned := r.Epoch() > 0 && r.Done() == interval*r.Epoch()
		if want, ok := s.State(r.Done(), hasTurned); !ok || r.State() != want {
			w.fail("the state of %d behind %d isn't what follows from the log", id, r.Done())
		}
		for _, x := range r.History() {
			if textOf(x.Req) != textOf(w.log[x.Slot-1]) {
				w.fail("%d did another request in the slot %d", id, x.Slot)
			}
		}
	}
}

// expectOneChain holds W3: each chain is that of the log, and signed as it should be; nobody comes or goes whom no request names.
func (w *town) expectOneChain(s *saga.Saga) {
	w.t.Helper()
	for _, id := range w.w.Replicas() {
		r := w.w.Replica(id)
		w.expectChain(s, id, r.Epoch(), r.Chain())
	}
	for _, id := range w.w.Clients() {
		c := w.w.Client(id)
		w.expectChain(s, node+id, c.Epoch(), c.Chain())
	}
	before, _ := s.Conf(0)
	for epoch := 1; epoch <= s.Len()/interval && epoch <= lastEpoch; epoch++ {
		c, _ := s.Conf(epoch)
		for id := range ids {
			was, is := slices.Contains(before.Members, id), slices.Contains(c.Members, id)
			if was != is && !isNamed(w.log[interval*(epoch-1):interval*epoch], id, is) {
				w.fail("%d came or went in the epoch %d, and nobody asked it", id, epoch)
			}
		}
		before = c
	}
}

func (w *town) expectChain(s *saga.Saga, by, epoch int, chain []api.Link) {
	w.t.Helper()
	before := conf(0, w.first...)
	for i, link := range chain {
		want, ok := s.Conf(i + 1)
		if !ok || tell(link.Conf) != tell(want) {
			w.fail("%d knows the configuration %v, asked %v, %t", by, link.Conf, want, ok)
		}
		if e := lineage.Valid(before, link); e != api.OK {
			w.fail("%d has a link that isn't good: %d", by, e)
		}
		before = want
	}
	if epoch != len(chain) {
		w.fail("%d is in the epoch %d, and has %d links", by, epoch, len(chain))
	}
}

// isNamed tells if some request is to let the replica come, or go.
func isNamed(log []api.Request, id int, comes bool) bool {
	kind := api.OpLeave
	if comes {
		kind = api.OpJoin
	}
	return slices.ContainsFunc(log, func(q api.Request) bool { return q.Op.Kind == kind && q.Op.ID == id })
}

// expectTrueAnswers holds W4: what an honest client accepted is what came of its request where it took effect; nothing is done in its name that it didn't ask.
func (w *town) expectTrueAnswers(s *saga.Saga) {
	w.t.Helper()
	for _, id := range w.w.Clients() {
		c := w.w.Client(id)
		results := c.Results()
		for i, x := range c.Accepted() {
			slot, want, ok := s.Outcome(x.Req)
			if !ok || slot < 1 || slot > s.Len() || tell(results[i]) != tell(want) || textOf(x.Req) != textOf(w.log[slot-1]) {
				w.fail("the client %d accepted %v of %v, and it came in %d to %v, %t", id, results[i], x.Req, slot, want, ok)
			}
		}
	}
	isAsked := map[string]bool{}
	for _, q := range w.asked {
		isAsked[textOf(q)] = true
	}
	for i, q := range w.log {
		if q != null() && !slices.Contains(w.bad, node+q.Client) && !isAsked[textOf(q)] {
			w.fail("in the slot %d %v was done, and nobody asked it", i+1, q)
		}
	}
}

// expectBounds holds W5: what is kept stays within its bounds.
func (w *town) expectBounds() {
	w.t.Helper()
	if n := w.w.Len(); n > maxLane {
		w.fail("%d are under way", n)
	}
	for _, id := range w.w.Replicas() {
		r := w.w.Replica(id)
		begun := interval * r.Epoch()
		if r.Left() < 0 || r.Left() > leaves || r.View() < 0 || r.View() > lastView || r.Epoch() > lastEpoch || r.Done() < begun || r.Done() > begun+interval || r.Size() > interval*(1+2*10) {
			w.fail("the replica %d: %d leaves, the epoch %d, the view %d, %d done, a log of %d", id, r.Left(), r.Epoch(), r.View(), r.Done(), r.Size())
		}
	}
}

// play makes so many steps, and holds the whole behind each few of them. It answers false where it ended early, as more were bad than may be.
func (w *town) play(steps, each int) bool {
	w.t.Helper()
	for i := range steps {
		w.step()
		if (i+1)%each == 0 && w.expectWhole() == nil {
			return false
		}
	}
	return w.expectWhole() != nil
}

// reach is how far worlds came.
type reach struct{ slots, epochs, views, accepted, members, lies int }

func (x *reach) note(w *town) {
	x.slots = max(x.slots, len(w.log))
	x.lies += w.lies
	for _, id := range w.w.Replicas() {
		r := w.w.Replica(id)
		x.epochs = max(x.epochs, r.Epoch())
		x.views = max(x.views, r.View())
		for _, link := range r.Chain() {
			x.members = max(x.members, len(link.Conf.Members))
		}
	}
	for _, id := range w.w.Clients() {
		x.accepted += len(w.w.Client(id).Accepted())
	}
}

// Nobody is bad: any scripts, in which packets are lost, doubled and late.
func TestWholeWithNobodyBad(t *testing.T) {
	var far reach
	for seed := range int64(16) {
		w := townOf(t, seed, firstOf(4+int(seed%5)), 10, 8)
		if !w.play(2500, 50) {
			t.Error(seed, "isn't sound")
		}
		far.note(w)
	}
	if far.slots < 20 || far.epochs < 4 || far.views < 1 || far.accepted < 80 || far.members < 8 {
		t.Errorf("%+v", far)
	}
}

// Bad members up to the faults, and bad clients.
func TestWholeWithBadNodes(t *testing.T) {
	var far reach
	for seed := range int64(48) {
		first := firstOf(4 + int(seed%4))
		bad := [][]int{{0}, {3}, {1, 101}, {2, 103, 104}, {102, 0}, {101, 102, 103}}[seed%6]
		w := townOf(t, seed, first, 10, 8, bad...)
		if !w.play(2000, 40) {
			t.Error(seed, "isn't sound")
		}
		far.note(w)
	}
	if far.slots < 20 || far.epochs < 4 || far.views < 2 || far.accepted < 150 || far.lies < 3000 {
		t.Errorf("%+v", far)
	}
}

// Bad ones who come and go: it holds up to the epoch that has too many of them.
func TestWholeWithBadNodesThatCome(t *testing.T) {
	var far reach
	ended := 0
	for seed := range int64(16) {
		bad := [][]int{{3, 4, 5, 6}, {0, 4, 5}, {4, 5, 6, 7, 8, 9, 101}, {6, 7, 8}}[seed%4]
		w := townOf(t, seed, firstOf(4), 10, 6, bad...)
		w.come = bad
		if !w.play(1000, 1) {
			ended++
		}
		far.note(w)
	}
	if far.slots < 12 || far.epochs < 3 || ended < 3 || ended > 13 {
		t.Errorf("%+v %d", far, ended)
	}
}

// Too many bad ones from the beginning on: no promise but that no step panics, and each ends. No log that may be merged is sound.
func TestTooManyBadNodes(t *testing.T) {
	for seed := range int64(12) {
		bad := [][]int{{0, 1}, {1, 2, 3}, {0, 1, 2, 3, 101}, {2, 3, 101, 102}}[seed%4]
		w := townOf(t, seed, firstOf(4), 10, 4, bad...)
		for range 800 {
			w.step()
		}
		w.expectBounds()
		var histories [][]api.Entry
		for _, id := range w.w.Replicas() {
			histories = append(histories, w.w.Replica(id).History())
		}
		if log, e := saga.Merge(histories); e == api.OK {
			if s, e := saga.New(conf(0, firstOf(4)...), log); e != api.OK || s.Sound(bad) {
				t.Error(seed, e)
			}
		}
	}
}
