package saga_test

import (
	"fmt"
	"math/rand"
	"slices"
	"strings"
	"testing"

	"witan/api"
	"witan/change"
	"witan/council"
	"witan/deeds"
	"witan/ledger"
	"witan/replica"
	"witan/wire"
	"witan/world"
)

// town is a world that is moved by steps, and of which is noted what honest clients asked. What is under way can't be seen: bad nodes say what may be guessed out of how the honest ones stand, and the lane refuses what needs a signature that wasn't sent.
type town struct {
	t *testing.T
	*rand.Rand
	w     *world.World
	first []int
	bad   []int
	come  []int // who asks to join more often than others
	asked []api.Request
	log   []api.Request // as the histories told it when they were merged last
	row   []string      // what was done, to be told where something is wrong
	lies  int           // how many weren't refused
}

func townOf(t *testing.T, seed int64, first []int, n, k int, bad ...int) *town {
	t.Helper()
	w, e := world.New(conf(0, first...), n, k, bad)
	if e != api.OK {
		t.Fatal(e)
	}
	return &town{t: t, Rand: rand.New(rand.NewSource(seed)), w: w, first: first, bad: bad}
}

func (w *town) fail(format string, args ...any) {
	w.t.Helper()
	row := strings.Join(w.row[max(0, len(w.row)-40):], "\n")
	w.t.Fatalf("a world of %v, in which %v are bad; behind:\n%.6000s\n%s", w.first, w.bad, row, fmt.Sprintf(format, args...))
}

// move makes a step, and tells if it isn't refused.
func (w *town) move(x api.Do) bool {
	w.t.Helper()
	if len(w.row) == 80 {
		w.row = slices.Delete(w.row, 0, 40)
	}
	w.row = append(w.row, fmt.Sprintf("%d %d %d %v %.300s", x.Kind, x.N, x.From, x.Op, tell(x.Msg)))
	if w.w.Do(x) != api.OK {
		return false
	}
	if x.Kind == api.DoAsk {
		q, _ := w.w.Client(x.N).Open()
		w.asked = append(w.asked, q)
	}
	return true
}

// must makes steps none of which is refused.
func (w *town) must(steps ...api.Do) {
	w.t.Helper()
	for _, x := range steps {
		if !w.move(x) {
			w.fail("the step is refused")
		}
	}
}

// The steps.

func deliver(n int) api.Do { return api.Do{Kind: api.DoDeliver, N: n} }

func drop(n int) api.Do { return api.Do{Kind: api.DoDrop, N: n} }

func copyOf(n int) api.Do { return api.Do{Kind: api.DoCopy, N: n} }

func tick(n int) api.Do { return api.Do{Kind: api.DoTick, N: n} }

func ask(client int, o api.Op) api.Do { return api.Do{Kind: api.DoAsk, N: client, Op: o} }

func flush(rounds int) api.Do { return api.Do{Kind: api.DoFlush, N: rounds} }

func inject(from, to int, m api.Msg) api.Do {
	return api.Do{Kind: api.DoInject, From: from, N: to, Msg: m}
}

// step makes any step: packets are lost, doubled and late.
func (w *town) step() {
	w.t.Helper()
	nothing := w.w.Len() == 0
	switch n := w.Intn(200); {
	case nothing && n < 100, n < 2:
		w.move(tick(-1))
	case n < 4:
		w.move(tick([]int{w.Intn(ids), node + w.Intn(10)}[w.Intn(2)]))
	case nothing, n < 14:
		w.move(ask(1+w.Intn(clients), w.anyOp()))
	case n < 40:
		w.lie()
	case n < 46:
		w.move(copyOf(w.Intn(20)))
	case n < 50:
		w.move(drop(w.Intn(99)))
	case n < 130:
		w.move(deliver(w.Intn(20) - 10))
	case n < 132:
		w.move(flush(w.Intn(3)))
	default:
		w.move(deliver(0))
	}
}

func (w *town) anyOp() api.Op {
	if len(w.come) > 0 && w.Intn(10) == 0 {
		return join(w.come[w.Intn(len(w.come))])
	}
	return anyOp(w.Rand)
}

// lie lets a bad node say something to somebody.
func (w *town) lie() {
	w.t.Helper()
	if len(w.bad) == 0 {
		return
	}
	from, to := w.bad[w.Intn(len(w.bad))], w.Intn(10)
	r := w.w.Replica(to)
	if r == nil || w.Intn(8) == 0 {
		there := w.w.Replicas()
		r = w.w.Replica(there[w.Intn(len(there))])
		to = node + 1 + w.Intn(clients)
	}
	m := w.lieTo(from, r)
	if w.Intn(6) == 0 {
		m = w.bent(m)
	}
	if w.move(inject(from, to, m)) {
		w.lies++
	}
}

// bent answers what is read of the message's bytes when one of them is another one: the zero message, if that is none.
func (w *town) bent(m api.Msg) api.Msg {
	text, _ := wire.Bytes(m)
	bytes := []byte(text)
	if len(bytes) > 0 {
		bytes[w.Intn(len(bytes))] = byte(w.Intn(256))
	}
	m, _ = wire.Read(string(bytes))
	return m
}

// lieTo answers something that one who stands as this replica might take.
func (w *town) lieTo(by int, r *replica.Replica) api.Msg {
	epoch, view := r.Epoch(), r.View()
	slot := min(max(r.Done()+w.Intn(3), interval*epoch+1), interval*(epoch+1))
	q := w.someRequest(by)
	switch w.Intn(12) {
	case 0, 1:
		return proposeMsg(epoch, view, slot, q)
	case 2, 3:
		return prepareMsg(by, epoch, view, slot, q)
	case 4, 5:
		return commitMsg(epoch, view, slot, q)
	case 6:
		return w.lieVote(by, r)
	case 7:
		view = min(view+1+w.Intn(2), lastView)
		return changeMsg(epoch, view, changeOf(epoch, by, view, w.someCerts(by, epoch, view)...))
	case 8:
		return w.lieNewView(by, epoch, min(view+1+w.Intn(2), lastView))
	case 9:
		return api.Msg{Kind: api.MReply, Epoch: epoch, Req: q, Result: api.Result{Code: w.Intn(9), Real: anyReal(w.Rand)}}
	case 10:
		return w.lieState(by, r)
	}
	return api.Msg{Kind: api.MFetch, Epoch: w.Intn(epoch + 1)}
}

// someRequest answers one that an honest client asked, or that a bad one may ask, or the null one.
func (w *town) someRequest(by int) api.Request {
	switch n := w.Intn(7); {
	case n == 0 || len(w.asked) == 0:
		return null()
	case n == 1:
		client := 1 + w.Intn(clients)
		if by > node {
			client = by - node
		}
		return request(client, 1+w.Intn(30), anyOp(w.Rand))
	case n == 2: // as nobody asked it
		q := w.asked[w.Intn(len(w.asked))]
		q.Op = anyOp(w.Rand)
		return q
	}
	return w.asked[len(w.asked)-1-w.Intn(min(4, len(w.asked)))]
}

// lieVote answers a vote for what may follow.
func (w *town) lieVote(by int, r *replica.Replica) api.Msg {
	l, e := ledger.Open(r.State())
	if e != api.OK {
		w.fail("a state isn't a ledger's")
	}
	for !l.Full() {
		l.Do(w.someRequest(by))
	}
	slot := l.Done()
	if l.Turn() != api.OK {
		return api.Msg{}
	}
	return voteMsg(by, slot, l.Text(), l.Conf())
}

// someCerts answers certificates that a quorum may have signed in some view below.
func (w *town) someCerts(by, epoch, view int) []api.Cert {
	var list []api.Cert
	for slot := interval*epoch + 1; slot <= interval*(epoch+1); slot++ {
		if w.Intn(2) == 0 {
			continue
		}
		q, below := w.someRequest(by), w.Intn(view)
		list = append(list, api.Cert{View: below, Slot: slot, Req: q, Sigs: w.signed(preparedText(epoch, below, slot, q))})
	}
	return list
}

// signed answers signatures of the text by some of the replicas: bad ones make theirs, and of the others the lane refuses what they never sent.
func (w *town) signed(text string) []api.Sig {
	var list []api.Sig
	for _, id := range w.first {
		if w.Intn(5) > 0 {
			list = append(list, api.Sig{By: id, Text: text})
		}
	}
	return list
}

// lieNewView answers the beginning of a view out of changes that members may have told.
func (w *town) lieNewView(by, epoch, view int) api.Msg {
	var list []api.Change
	for id := range ids {
		switch {
		case slices.Contains(w.bad, id):
			list = append(list, changeOf(epoch, id, view, w.someCerts(by, epoch, view)...))
		case slices.Contains(w.first, id) && w.Intn(4) > 0:
			list = append(list, changeOf(epoch, id, view))
		}
	}
	return api.Msg{Kind: api.MNewView, Epoch: epoch, View: view, Changes: list[:min(10, len(list))]}
}

// lieState answers a state with a chain that is known, but with one link more, one fewer, or another state than the chain's.
func (w *town) lieState(by int, r *replica.Replica) api.Msg {
	links := r.Chain()
	text := r.State()
	switch w.Intn(3) {
	case 0:
		c := conf(len(links)+1, append(slices.Clone(w.first[:len(w.first)-1]), ids-1)...)
		s, _ := council.Text(c)
		links = append(links, api.Link{Conf: c, Sigs: w.signed(s)})
	case 1:
		links = links[:max(0, len(links)-1)]
	case 2:
		l, _ := ledger.New(conf(0, w.first...))
		text = l.Text()
	}
	s, _ := deeds.State(interval*len(links), text)
	return api.Msg{Kind: api.MState, Epoch: len(links), Slot: interval * len(links), Text: text, Links: links, Sigs: w.signed(s)}
}

// The messages.

func textOf(q api.Request) string {
	text, _ := deeds.Text(q)
	return text
}

func preparedText(epoch, view, slot int, q api.Request) string {
	text, _ := deeds.Prepared(epoch, view, slot, q)
	return text
}

func proposeMsg(epoch, view, slot int, q api.Request) api.Msg {
	m := api.Msg{Kind: api.MPropose, Epoch: epoch, View: view, Slot: slot, Req: q}
	if q != null() {
		m.Sigs = []api.Sig{{By: node + q.Client, Text: textOf(q)}}
	}
	return m
}

func prepareMsg(by, epoch, view, slot int, q api.Request) api.Msg {
	s := api.Sig{By: by, Text: preparedText(epoch, view, slot, q)}
	return api.Msg{Kind: api.MPrepare, Epoch: epoch, View: view, Slot: slot, Req: q, Sigs: []api.Sig{s}}
}

func commitMsg(epoch, view, slot int, q api.Request) api.Msg {
	return api.Msg{Kind: api.MCommit, Epoch: epoch, View: view, Slot: slot, Req: q}
}

// voteMsg answers the vote for the state behind the slot, and for the configuration in it.
func voteMsg(by, slot int, text string, next api.Conf) api.Msg {
	state, _ := deeds.State(slot, text)
	members, _ := council.Text(next)
	return api.Msg{Kind: api.MVote, Epoch: next.Epoch - 1, Slot: slot, Text: text, Next: next.Members, Sigs: []api.Sig{{By: by, Text: state}, {By: by, Text: members}}}
}

func changeOf(epoch, from, view int, certs ...api.Cert) api.Change {
	x := api.Change{From: from, View: view, Certs: certs}
	text, _ := change.Text(epoch, x)
	x.Sig = api.Sig{By: from, Text: text}
	return x
}

func changeMsg(epoch, view int, x api.Change) api.Msg {
	return api.Msg{Kind: api.MChange, Epoch: epoch, View: view, Changes: []api.Change{x}}
}
