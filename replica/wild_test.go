package replica_test

import (
	"math"
	"math/rand"
	"slices"
	"testing"

	"witan/api"
	"witan/ledger"
)

// wild hands a pair any row of messages and ticks, most of which come close to what the replica takes. Signatures are made as if all were bad: what a replica answers hangs on what it is given, not on whether that could be.
type wild struct {
	*pair
	*rand.Rand
	now  int
	calm bool // it seldom votes, changes the view or learns a state, so that much is done in between
}

func wildOf(t *testing.T, seed int64) *wild {
	rnd := rand.New(rand.NewSource(seed))
	members := spread(4 + rnd.Intn(7))
	id := members[rnd.Intn(len(members))]
	w := &wild{Rand: rnd, calm: seed%2 == 0}
	switch rnd.Intn(12) {
	case 0, 1:
		w.pair = pairOf(t, rnd.Intn(ids), members...) // most often no member
	case 2:
		w.pair = gone(t, id, lastEpoch-rnd.Intn(2), members...)
	case 3, 4:
		w.pair = spent(t, id, rnd.Intn(10), members...)
	default:
		w.pair = pairOf(t, id, members...)
	}
	return w
}

// chance tells yes once in n times.
func (w *wild) chance(n int) bool { return w.Intn(n) == 0 }

func (w *wild) step() {
	w.t.Helper()
	if !w.calm || w.chance(12) {
		w.now += w.Intn(2)
	}
	if w.chance(12) && (!w.calm || w.chance(12)) {
		w.now += w.Intn(12)
	}
	if w.chance(8) {
		w.tick(w.now)
		return
	}
	from, x := w.message()
	if w.chance(12) {
		w.twist(&x)
	}
	if w.chance(25) {
		from = []int{w.m.id, w.Intn(ids), node + w.Intn(10), -1, 200}[w.Intn(5)]
	}
	w.handle(w.now, from, x)
}

// message answers one of each kind in turn, by chance, and who sends it.
func (w *wild) message() (int, api.Msg) {
	n := w.Intn(100)
	if w.calm && w.m.active && !w.m.ledger.Full() && !w.chance(20) {
		n = w.Intn(78)
	}
	switch {
	case n < 12:
		q := w.fresh()
		return node + q.Client, askMsg(q)
	case n < 26:
		return w.m.primary(w.m.view), proposeMsg(w.epoch(), w.view(), w.openSlot(), w.request())
	case n < 52:
		slot := w.openSlot()
		from := w.someone()
		return from, prepareMsg(from, w.epoch(), w.view(), slot, w.likely(slot))
	case n < 78:
		slot := w.openSlot()
		return w.someone(), commitMsg(w.epoch(), w.view(), slot, w.likely(slot))
	case n < 86:
		return w.vote()
	case n < 92:
		return w.change()
	case n < 95:
		return w.newView()
	case n < 96:
		return w.someone(), replyMsg(w.epoch(), w.fresh(), api.Result{Code: w.Intn(9)})
	case n < 98:
		return w.Intn(200), fetchMsg(max(0, w.m.epoch()+w.Intn(3)-2))
	}
	return w.someone(), w.state()
}

func (w *wild) epoch() int {
	if w.chance(40) {
		return min(max(w.m.epoch()+w.Intn(3)-1, 0), lastEpoch)
	}
	return w.m.epoch()
}

func (w *wild) view() int {
	if w.chance(40) {
		return w.Intn(lastView + 1)
	}
	return w.m.view
}

// someone answers a member, or now and then another one.
func (w *wild) someone() int {
	if w.chance(30) {
		return w.Intn(ids)
	}
	return w.m.members()[w.Intn(len(w.m.members()))]
}

// openSlot answers a slot of the epoch, most often one that isn't done.
func (w *wild) openSlot() int {
	first := interval*w.m.epoch() + 1
	open := min(w.m.ledger.Done(), first+interval-2)
	if w.chance(5) {
		open = first - 1 + w.Intn(interval)
	}
	return open + 1
}

// likely answers the slot's proposal, most often.
func (w *wild) likely(slot int) api.Request {
	if w.chance(15) {
		return w.request()
	}
	for _, x := range w.m.words {
		if x.kind == api.MPropose && x.slot == slot {
			return requestOf(x.text)
		}
	}
	return w.request()
}

// fresh answers a right request, with a stamp about its client's last one.
func (w *wild) fresh() api.Request {
	client := 1 + w.Intn(clients)
	if w.chance(2) {
		client = 1 + w.Intn(2)
	}
	last, _ := w.m.ledger.Last(client)
	q := put(client, max(1, last+w.Intn(4)-1), "k", w.real())
	switch w.Intn(8) {
	case 0:
		q = join(q.Client, q.Stamp, w.Intn(ids))
	case 1:
		q = leave(q.Client, q.Stamp, w.Intn(ids))
	case 2:
		q.Op.Kind = api.OpAdd
	case 3:
		q = get(q.Client, q.Stamp)
	}
	return q
}

func (w *wild) real() float64 {
	list := []float64{1, 2, math.Inf(1), math.Inf(-1), math.NaN(), math.Copysign(0, -1), math.Float64frombits(0xFFF0000000000001)}
	return list[w.Intn(len(list))]
}

// request answers one that waits, or a fresh one, or the null request.
func (w *wild) request() api.Request {
	if w.chance(6) {
		return null
	}
	for client := 1; client <= clients; client++ {
		if x, ok := w.m.waits[client]; ok && w.chance(2) {
			return x.Req
		}
	}
	return w.fresh()
}

// vote answers a vote for what the epoch comes to, if null requests follow, most often.
func (w *wild) vote() (int, api.Msg) {
	from := w.someone()
	l := w.m.ledger.Copy()
	if w.chance(20) {
		l.Do(join(7, 9, w.Intn(ids)))
	}
	if !l.Full() && !w.chance(4) {
		return from, commitMsg(w.m.epoch(), w.m.view, l.Done()+1, w.likely(l.Done()+1))
	}
	fill(l)
	epoch := l.Conf().Epoch
	if l.Turn() != api.OK || w.chance(20) {
		return from, voteMsg(from, min(epoch, lastEpoch-1), "no ledger", l.Next())
	}
	if w.chance(20) {
		fill(l)
	}
	x := voteMsg(from, epoch, l.Text(), l.Next())
	if w.chance(20) {
		x = voteMsg(from, epoch, l.Text(), spread(4+w.Intn(7)))
	}
	return from, x
}

func (w *wild) laterView() int { return min(max(1, w.m.view+w.Intn(3)), lastView) }

// certs answers certificates of views below, by a quorum.
func (w *wild) certs(view int) []api.Cert {
	var list []api.Cert
	for i := range interval {
		slot := interval*w.m.epoch() + 1 + i
		if c, ok := w.m.certs[slot]; ok && c.View < view && !w.chance(3) {
			list = append(list, c)
			continue
		}
		if w.chance(4) {
			members := w.m.members()
			by := members[:w.m.quorum()+w.Intn(len(members)-w.m.quorum()+1)]
			list = append(list, certOf(w.m.epoch(), w.Intn(view), slot, w.request(), by...))
		}
	}
	return list
}

func (w *wild) change() (int, api.Msg) {
	from, view, epoch := w.someone(), w.laterView(), w.epoch()
	certs := w.certs(view)
	if epoch != w.m.epoch() {
		certs = nil // their slots wouldn't fit
	}
	return from, changeMsg(epoch, from, view, certs...)
}

func (w *wild) newView() (int, api.Msg) {
	view := w.laterView()
	members := slices.Clone(w.m.members())
	w.Shuffle(len(members), func(i, j int) { members[i], members[j] = members[j], members[i] })
	count := w.m.quorum()
	if w.chance(5) {
		count = 1 + w.Intn(len(members))
	}
	by := members[:count]
	slices.Sort(by)
	var list []api.Change
	for _, id := range by {
		list = append(list, changeOf(w.m.epoch(), id, view, w.certs(view)...))
	}
	return w.m.primary(view), newViewMsg(w.m.epoch(), view, list...)
}

// state answers where its council may be some epochs later.
func (w *wild) state() api.Msg {
	r := &road{first: w.m.first, ledger: w.m.ledger.Copy(), links: slices.Clone(w.m.chain)}
	for range 1 + w.Intn(2) {
		if r.ledger.Conf().Epoch == lastEpoch {
			return fetchMsg(lastEpoch)
		}
		if q := w.fresh(); !r.ledger.Full() {
			r.ledger.Do(q)
		}
		r.walk()
	}
	return r.state()
}

// fill does null requests up to the epoch's end.
func fill(l *ledger.Ledger) {
	for !l.Full() {
		l.Do(null)
	}
}

// twist changes one thing of a message.
func (w *wild) twist(x *api.Msg) {
	*x = clone(*x)
	by := w.Intn(3) - 1
	switch w.Intn(12) {
	case 0:
		x.Kind = w.Intn(12)
	case 1:
		x.Epoch += by
	case 2:
		x.View += by
	case 3:
		x.Slot += by
	case 4:
		x.Req.Stamp += by
	case 5:
		x.Req.Op.Real = w.real()
	case 6:
		x.Text += "x"
	case 7:
		x.Next = append(x.Next, ids-1)
	case 8:
		x.Result.Code++
	default:
		w.twistSig(x)
	}
}

// twistSig changes one signature of a message, if it has one.
func (w *wild) twistSig(x *api.Msg) {
	var all []*api.Sig
	for i := range x.Sigs {
		all = append(all, &x.Sigs[i])
	}
	for i := range x.Changes {
		all = append(all, &x.Changes[i].Sig)
		for j := range x.Changes[i].Certs {
			all = append(all, &x.Changes[i].Certs[j].Sigs[0])
		}
	}
	for i := range x.Links {
		all = append(all, &x.Links[i].Sigs[0])
	}
	if len(all) == 0 {
		return
	}
	s := all[w.Intn(len(all))]
	if w.chance(2) {
		s.By = (s.By + 1) % 200
		return
	}
	s.Text += "x"
}

// Any row of messages and ticks: behind each call all is as the chapter says.
func TestAnyRow(t *testing.T) {
	epochs, views, done, halted := 0, 0, 0, 0
	for seed := range int64(200) {
		w := wildOf(t, seed)
		for range 400 {
			w.step()
			views = max(views, w.m.view)
		}
		epochs = max(epochs, w.m.epoch())
		done = max(done, len(w.m.history))
		if w.m.halted {
			halted++
		}
	}
	if epochs < lastEpoch || views < lastView || done < 8 || halted < 20 {
		t.Error("no row came far:", epochs, views, done, halted)
	}
}
