package replica_test

import (
	"math/rand"
	"slices"
	"testing"

	"witan/api"
	"witan/ledger"
	"witan/terms"
	"witan/wire"
)

// town is replicas that send each other what they answer, each of them a pair; a bad one among them says whatever its own signatures and those that were seen allow.
type town struct {
	t      *testing.T
	rnd    *rand.Rand
	first  []int
	all    []*pair // by their numbers; nil where there is none
	bad    int     // -1: nobody
	lane   []api.Packet
	book   *terms.Book
	seen   []api.Msg // what the bad one may send again
	told   []api.Packet
	stamps [clients + 1]int
	loss   int // how many of a hundred packets are lost
	now    int
}

func townOf(t *testing.T, seed int64, bad int, first ...int) *town {
	x := &town{t: t, rnd: rand.New(rand.NewSource(seed)), first: first, all: make([]*pair, ids), bad: bad, book: terms.New()}
	for id := range 8 {
		x.all[id] = pairOf(t, id, first...)
	}
	return x
}

// send puts packets on their way. What a bad node says is whatever it is made to say instead.
func (x *town) send(list []api.Packet) {
	for _, p := range list {
		x.book.Note(wire.Terms(p.Msg)...)
		if p.From == x.bad {
			continue
		}
		x.lane = append(x.lane, p)
		if p.To == x.bad {
			x.seen = append(x.seen, clone(p.Msg))
		}
	}
}

// deliver hands the packet at the place over.
func (x *town) deliver(at int) {
	x.t.Helper()
	p := x.lane[at]
	x.lane = slices.Delete(x.lane, at, at+1)
	if p.To >= node {
		x.told = append(x.told, p)
		return
	}
	if p.To < ids && x.all[p.To] != nil {
		x.send(x.all[p.To].handle(x.now, p.From, p.Msg))
	}
}

func (x *town) flush(rounds int) {
	x.t.Helper()
	for range rounds {
		for range len(x.lane) {
			x.deliver(0)
		}
	}
}

func (x *town) tick() {
	x.t.Helper()
	x.now++
	for _, p := range x.all {
		if p != nil {
			x.send(p.tick(x.now))
		}
	}
}

// ask lets a client ask all replicas.
func (x *town) ask(q api.Request) {
	m := askMsg(q)
	x.book.Note(m.Sigs...)
	for id, p := range x.all {
		if p != nil {
			x.lane = append(x.lane, api.Packet{From: node + q.Client, To: id, Msg: m})
		}
	}
}

// askAny asks for anything, as a client's next request.
func (x *town) askAny() {
	client := 1 + x.rnd.Intn(clients)
	x.stamps[client] += 1 + x.rnd.Intn(2)
	q := put(client, x.stamps[client], "k", float64(x.rnd.Intn(3)))
	switch x.rnd.Intn(6) {
	case 0:
		q = join(client, q.Stamp, x.rnd.Intn(8))
	case 1:
		q = leave(client, q.Stamp, x.rnd.Intn(8))
	case 2:
		q.Op.Kind = api.OpAdd
	}
	x.ask(q)
}

// lie lets the bad one send something to somebody.
func (x *town) lie() {
	to := x.rnd.Intn(8)
	if x.bad < 0 || to == x.bad {
		return
	}
	m, ok := x.lieTo(x.all[to].m)
	if !ok || !x.book.Derivable([]int{x.bad}, wire.Terms(m)) {
		return
	}
	x.book.Note(wire.Terms(m)...)
	for range 1 + x.rnd.Intn(2) {
		x.lane = append(x.lane, api.Packet{From: x.bad, To: to, Msg: m})
	}
}

// lieTo answers something that one who stands so might take.
func (x *town) lieTo(m *model) (api.Msg, bool) {
	slot := min(m.ledger.Done()+1, interval*(m.epoch()+1))
	q := x.someRequest(m)
	switch x.rnd.Intn(8) {
	case 0:
		return proposeMsg(m.epoch(), m.view, slot, q), true
	case 1:
		return prepareMsg(x.bad, m.epoch(), m.view, slot, q), true
	case 2:
		return commitMsg(m.epoch(), m.view, slot, q), true
	case 3:
		l := m.ledger.Copy()
		fill(l)
		if l.Conf().Epoch == lastEpoch {
			return api.Msg{}, false
		}
		return voteFor(x.bad, l), true
	case 4:
		return changeMsg(m.epoch(), x.bad, min(m.view+1+x.rnd.Intn(2), lastView), x.someCerts(m)...), true
	case 5:
		return x.lieNewView(m), true
	}
	if len(x.seen) == 0 {
		return api.Msg{}, false
	}
	return x.seen[x.rnd.Intn(len(x.seen))], true
}

func (x *town) someRequest(m *model) api.Request {
	for client := 1; client <= clients; client++ {
		if w, ok := m.waits[client]; ok && x.rnd.Intn(2) == 0 {
			return w.Req
		}
	}
	return null
}

// someCerts answers some of the certificates that somebody has.
func (x *town) someCerts(m *model) []api.Cert {
	var list []api.Cert
	for i := range interval {
		if c, ok := m.certs[interval*m.epoch()+1+i]; ok && x.rnd.Intn(2) == 0 {
			list = append(list, c)
		}
	}
	return list
}

// lieNewView answers the beginning of a view out of changes that somebody has.
func (x *town) lieNewView(m *model) api.Msg {
	view := min(m.view+x.rnd.Intn(2), lastView)
	var list []api.Change
	for _, id := range m.members() {
		if c, ok := m.changes[id]; ok && c.View == view {
			list = append(list, c)
		}
	}
	return newViewMsg(m.epoch(), view, list...)
}

// step moves something by chance: some is lost, doubled or late.
func (x *town) step() {
	x.t.Helper()
	switch n := x.rnd.Intn(100); {
	case len(x.lane) == 0 && n < 50:
		x.tick()
	case n < 2 || len(x.lane) == 0:
		x.askAny()
	case n < 3:
		x.tick()
	case n < 6:
		x.lie()
	case n < 8:
		x.lane = append(x.lane, x.lane[x.rnd.Intn(len(x.lane))])
	case n < 8+x.loss:
		at := x.rnd.Intn(len(x.lane))
		x.lane = slices.Delete(x.lane, at, at+1)
	case n < 40:
		x.deliver(x.rnd.Intn(min(len(x.lane), 12)))
	default:
		x.deliver(0)
	}
}

func (x *town) honest() []*pair {
	var list []*pair
	for id, p := range x.all {
		if p != nil && id != x.bad {
			list = append(list, p)
		}
	}
	return list
}

// common answers what the honest replicas did, slot by slot. No two of them did unlike requests in one slot, and somebody did each.
func (x *town) common() []api.Request {
	x.t.Helper()
	did := map[int]api.Request{}
	for _, p := range x.honest() {
		for _, e := range p.r.History() {
			if was, ok := did[e.Slot]; ok && !isEqualReq(was, e.Req) {
				p.fail("in the slot %d unlike requests were done: %s and %s", e.Slot, tellReq(was), tellReq(e.Req))
			}
			did[e.Slot] = e.Req
		}
	}
	var log []api.Request
	for slot := 1; slot <= len(did); slot++ {
		q, ok := did[slot]
		if !ok {
			x.t.Fatalf("nobody did the slot %d", slot)
		}
		log = append(log, q)
	}
	return log
}

// expectOne holds each honest replica's state and chain against what follows from the common log.
func (x *town) expectOne() {
	x.t.Helper()
	log := x.common()
	l, _ := ledger.New(conf(0, x.first...))
	states := map[[2]int]string{{0, 0}: l.Text()} // by epochs and how much is done
	confs := []api.Conf{l.Conf()}
	for i, q := range log {
		l.Do(q)
		states[[2]int{l.Conf().Epoch, i + 1}] = l.Text()
		if l.Full() && l.Turn() == api.OK {
			states[[2]int{l.Conf().Epoch, i + 1}] = l.Text()
			confs = append(confs, l.Conf())
		}
	}
	for _, p := range x.honest() {
		if p.r.State() != states[[2]int{p.r.Epoch(), p.r.Done()}] {
			p.fail("its state isn't what follows from the log")
		}
		for i, link := range p.r.Chain() {
			if confText(link.Conf) != confText(confs[i+1]) {
				p.fail("its chain isn't what follows from the log")
			}
		}
	}
}

// Replicas that hear each other badly, with a bad one among them, are each what the chapter says, and have one log.
func TestTowns(t *testing.T) {
	far, views := 0, 0
	for seed := range int64(60) {
		bad := int(seed%5) - 1
		x := townOf(t, seed, bad, firstOf(4+int(seed%4))...)
		x.loss = int(seed % 7)
		for range 3000 {
			x.step()
		}
		x.expectOne()
		far = max(far, len(x.common()))
		for _, p := range x.honest() {
			views = max(views, p.r.View())
		}
	}
	if far < 20 || views < 2 {
		t.Error("no town did more than", far, "slots, or came further than the view", views)
	}
}

// Where all arrives each request is done in eight rounds, with nobody bad.
func TestAnOrdinaryTown(t *testing.T) {
	x := townOf(t, 1, -1, 0, 1, 2, 3)
	for i := 1; i <= 30; i++ {
		q := put(1+i%clients, i, "k", float64(i))
		switch i {
		case 3, 9:
			q = join(q.Client, i, 3+i/3) // 4, then 6
		case 14:
			q = leave(q.Client, i, 0)
		}
		x.ask(q)
		x.flush(8)
		for range 4 {
			x.tick()
		}
		x.flush(8)
		log := x.common()
		if len(log) != i || !isEqualReq(log[i-1], q) {
			t.Fatal(i, len(log))
		}
		x.expectOne()
	}
	for _, p := range x.all[1:4] {
		p.stands(7, 0, true, 30, leaves-30-2*7)
	}
	want := []int{1, 2, 3, 4, 6}
	for _, id := range want {
		chain := x.all[id].r.Chain()
		if !slices.Equal(chain[6].Conf.Members, want) {
			t.Error(chain[6].Conf.Members)
		}
	}
}

// With one silent member of four each request is done within 24 ticks, whoever is silent, through views and epochs.
func TestATownWithASilentMember(t *testing.T) {
	for silent := range 4 {
		x := townOf(t, 1, silent, 0, 1, 2, 3)
		for i := 1; i <= 10; i++ {
			x.ask(put(1+i%clients, i, "k", float64(i)))
			from := x.now
			for x.flush(8); len(x.common()) < i; x.flush(8) {
				x.tick()
				if x.now > from+24 {
					t.Fatalf("%d is silent: the request %d isn't done within 24 ticks", silent, i)
				}
			}
			x.expectOne()
		}
	}
}
