package world_test

import (
	"math/rand"
	"slices"
	"testing"

	"witan/api"
	"witan/ledger"
	"witan/replica"
)

// wild moves a pair by any script from a fixed seed, in which packets are lost, doubled and late, and bad nodes say whatever their own signatures and those that were seen allow.
type wild struct {
	*pair
	*rand.Rand
	bad   []int
	loss  int // how many of a hundred packets are lost
	asked []api.Request
	went  [8]int // how many steps of each kind weren't refused
}

func wildOf(t *testing.T, seed int64, first []int, n, k int, bad ...int) *wild {
	t.Helper()
	r := rand.New(rand.NewSource(seed))
	return &wild{pair: pairOf(t, first, n, k, bad...), Rand: r, bad: bad, loss: r.Intn(7)}
}

// step makes one that most often isn't refused.
func (w *wild) step() {
	w.t.Helper()
	nothing := w.w.Len() == 0
	switch n := w.Intn(200); {
	case nothing && n < 100:
		w.move(tick(-1))
	case n < 2:
		w.move(tick(-1))
	case n < 4:
		w.move(tick([]int{w.Intn(ids), node + w.Intn(10), w.Intn(300) - 100}[w.Intn(3)]))
	case n < 12 || nothing:
		w.ask()
	case n < 36:
		w.lie()
	case n < 42:
		w.move(copyOf(w.number()))
	case n < 42+2*w.loss:
		w.move(drop(w.number()))
	case n < 130:
		w.move(deliver(w.number()))
	case n < 131:
		w.move(api.Do{Kind: w.Intn(20) - 6, N: w.Intn(40) - 10})
	case n < 133:
		w.move(flush(w.Intn(3)))
	default:
		w.move(deliver(0))
	}
}

// move makes a step, tells if it isn't refused, and counts those.
func (w *wild) move(x api.Do) bool {
	w.t.Helper()
	if w.do(x) != api.OK {
		return false
	}
	w.went[x.Kind]++
	return true
}

func (w *wild) number() int {
	switch w.Intn(4) {
	case 0:
		return -1 - w.Intn(9)
	case 1:
		return int(w.Uint64())
	}
	return w.Intn(12)
}

// ask lets a client ask for anything, and notes what honest ones asked.
func (w *wild) ask() {
	w.t.Helper()
	id := 1 + w.Intn(clients)
	if w.move(ask(id, anyOp(w.Rand))) {
		q, _ := w.w.Client(id).Open()
		w.asked = append(w.asked, q)
	}
}

// lie lets a bad node say something to somebody.
func (w *wild) lie() {
	w.t.Helper()
	if len(w.bad) == 0 {
		return
	}
	from, to := w.bad[w.Intn(len(w.bad))], w.Intn(10)
	if w.Intn(8) == 0 {
		to = node + 1 + w.Intn(clients)
	}
	var m api.Msg
	if r := w.w.Replica(to); r != nil && w.Intn(4) > 0 {
		m = w.lieTo(from, r)
	} else if len(w.m.sent) > 0 {
		m = w.m.sent[w.Intn(len(w.m.sent))].Msg
	}
	w.move(inject(from, to, m))
}

// lieTo answers something that one who stands so might take.
func (w *wild) lieTo(by int, r *replica.Replica) api.Msg {
	epoch, view := r.Epoch(), r.View()
	slot := min(r.Done()+1, interval*(epoch+1))
	q := w.someRequest(by)
	switch w.Intn(10) {
	case 0:
		return proposeMsg(epoch, view, slot, q)
	case 1:
		return prepareMsg(by, epoch, view, slot, q)
	case 2:
		return commitMsg(epoch, view, slot, q)
	case 3:
		return w.lieVote(by, r)
	case 4:
		return changeMsg(epoch, by, min(view+1+w.Intn(2), lastView), w.someCerts(epoch, view)...)
	case 5:
		return w.lieNewView(epoch, min(view+w.Intn(2), lastView))
	case 6:
		return replyMsg(epoch, q, api.Result{Real: float64(w.Intn(4))})
	case 7:
		return w.lieState(by, r)
	case 8:
		list := mixed(by)
		return list[w.Intn(len(list))]
	}
	return fetchMsg(w.Intn(epoch + 1))
}

// someRequest answers one that an honest client asked, or a bad one may ask, or the null one.
func (w *wild) someRequest(by int) api.Request {
	switch n := w.Intn(6); {
	case n == 0:
		return api.Request{}
	case n == 1 && by > node:
		return request(by-node, 1+w.Intn(30), anyOp(w.Rand))
	case len(w.asked) > 0:
		return w.asked[len(w.asked)-1-w.Intn(min(3, len(w.asked)))]
	}
	return api.Request{}
}

// lieVote answers a vote for what follows, or for something else.
func (w *wild) lieVote(by int, r *replica.Replica) api.Msg {
	l, e := ledger.Open(r.State())
	if e != api.OK || l.Conf().Epoch == lastEpoch {
		return api.Msg{}
	}
	for !l.Full() {
		l.Do(w.someRequest(by))
	}
	return voteFor(by, l)
}

// someCerts answers some certificates of the epoch, and of views below, that somebody showed.
func (w *wild) someCerts(epoch, view int) []api.Cert {
	var list []api.Cert
	for _, p := range w.lately() {
		for _, x := range p.Msg.Changes {
			for _, c := range x.Certs {
				if p.Msg.Epoch == epoch && c.View <= view && (len(list) == 0 || c.Slot > list[len(list)-1].Slot) && w.Intn(2) == 0 {
					list = append(list, c)
				}
			}
		}
	}
	return list
}

// lieNewView answers the beginning of a view out of changes that somebody told, as many as there are of.
func (w *wild) lieNewView(epoch, view int) api.Msg {
	var list []api.Change
	for id := range ids {
		for _, p := range w.lately() {
			if p.Msg.Kind == api.MChange && p.Msg.Epoch == epoch && p.Msg.View == view && p.From == id {
				list = append(list, p.Msg.Changes[0])
				break
			}
		}
		if slices.Contains(w.bad, id) && w.Intn(2) == 0 {
			list = append(list, changeOf(epoch, id, view, w.someCerts(epoch, view-1)...))
		}
	}
	return api.Msg{Kind: api.MNewView, Epoch: epoch, View: view, Changes: list}
}

// lieState answers a state that nobody settled, or one that was, with something changed.
func (w *wild) lieState(by int, r *replica.Replica) api.Msg {
	for _, p := range w.lately() {
		if m := clone(p.Msg); p.Msg.Kind == api.MState {
			switch w.Intn(4) {
			case 0:
				m.Sigs = m.Sigs[1:]
			case 1:
				m.Links = m.Links[:len(m.Links)-1]
			case 2:
				m.Text = r.State()
			}
			return m
		}
	}
	c := conf(1, 0, 1, 2, 3)
	return api.Msg{Kind: api.MState, Epoch: 1, Slot: interval, Text: r.State(), Sigs: []api.Sig{sig(by, "st")}, Links: []api.Link{{Conf: c, Sigs: []api.Sig{sig(by, "l")}}}}
}

// lately answers what was sent last.
func (w *wild) lately() []api.Packet { return w.m.sent[max(0, len(w.m.sent)-400):] }

// P21.1, P21.3: any scripts beside the model, step by step.

func TestWildWorlds(t *testing.T) {
	var went [8]int
	for seed := range int64(24) {
		bad := [][]int{nil, {3}, {0, 102}, {1}, {2, 101, 103}, {101}}[seed%6]
		w := wildOf(t, seed, firstOf(4+int(seed%3)), 7, int(seed%4)+1, bad...)
		w.gaps = 3
		for range 600 {
			w.step()
		}
		w.expectBounds()
		w.drain()
		for kind, n := range w.went {
			went[kind] += n
		}
	}
	for kind := 1; kind <= 7; kind++ {
		if went[kind] < 30 {
			t.Error("too few steps of the kind", kind, went)
		}
	}
}

// Where more are bad than may be, all is told as the chapters say, too: whatever comes of it.
func TestWildWorldsOfTooManyBadNodes(t *testing.T) {
	for seed := range int64(12) {
		bad := [][]int{{0, 1, 2}, {1, 3}, {0, 1, 2, 3, 101}, {0, 1, 2, 4, 101, 102}}[seed%4]
		w := wildOf(t, seed, firstOf(4), 6, 3, bad...)
		w.gaps = 3
		for range 500 {
			w.step()
		}
		w.expectBounds()
		w.drain()
	}
}

// Long scripts with many packets under way: much more comes than leaves.
func TestManyPacketsUnderWay(t *testing.T) {
	most := 0
	for seed := range int64(4) {
		w := wildOf(t, seed, firstOf(4), 5, 8, [][]int{nil, {2}}[seed%2]...)
		w.gaps = 200
		for range 1200 {
			switch w.Intn(12) {
			case 0:
				w.move(tick(-1))
			case 1, 2, 3:
				for range 10 {
					w.move(copyOf(w.number()))
				}
			case 4:
				w.ask()
			case 5:
				if w.Intn(20) == 0 {
					w.move(flush(1))
				}
			default:
				w.step()
			}
			most = max(most, w.w.Len())
		}
		w.expectBounds()
		w.must(flush(1), flush(2))
		w.expectAll()
	}
	if most < 1000 || most > maxLane {
		t.Error(most)
	}
}

// expectBounds holds each node within its layer's bounds.
func (w *wild) expectBounds() {
	w.t.Helper()
	if n := w.w.Len(); n > maxLane {
		w.fail("%d are under way", n)
	}
	for _, id := range w.w.Replicas() {
		r := w.w.Replica(id)
		if r.Left() < 0 || r.Left() > leaves || r.View() > lastView || r.Epoch() > lastEpoch || len(r.Chain()) != r.Epoch() {
			w.fail("the replica %d: %d leaves, the view %d, the epoch %d, %d links", id, r.Left(), r.View(), r.Epoch(), len(r.Chain()))
		}
		if before := interval * r.Epoch(); r.Done() < before || r.Done() > before+interval || len(r.History()) > r.Done() || r.Size() > interval*(2*10+1) {
			w.fail("the replica %d: %d done, a history of %d, a log of %d", id, r.Done(), len(r.History()), r.Size())
		}
	}
	for _, id := range w.w.Clients() {
		if c := w.w.Client(id); c.Epoch() > lastEpoch || len(c.Chain()) != c.Epoch() || len(c.Accepted()) != len(c.Results()) {
			w.fail("the client %d: the epoch %d, %d links", id, c.Epoch(), len(c.Chain()))
		}
	}
}
