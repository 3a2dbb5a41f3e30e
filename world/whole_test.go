package world_test

import (
	"slices"
	"strings"
	"testing"

	"witan/api"
	"witan/council"
	"witan/ledger"
)

// W1 to W4: what holds of any world whose epochs have no more bad members than faults.

// tale is what follows from a common log.
type tale struct {
	log    []api.Request
	states map[[2]int]string // by epochs and how much is done
	confs  []api.Conf
	came   map[string]api.Result // what each request came to, where it took effect first
}

// common answers what the honest replicas did, slot by slot: W1 is that no two did unlike requests in one, and that somebody did each.
func (w *wild) common() []api.Request {
	w.t.Helper()
	did := map[int]string{}
	of := map[int]api.Request{}
	for _, id := range w.w.Replicas() {
		for _, e := range w.w.Replica(id).History() {
			if was, ok := did[e.Slot]; ok && was != textOf(e.Req) {
				w.fail("in the slot %d unlike requests were done", e.Slot)
			}
			did[e.Slot], of[e.Slot] = textOf(e.Req), e.Req
		}
	}
	var log []api.Request
	for slot := 1; slot <= len(did); slot++ {
		q, ok := of[slot]
		if !ok {
			w.fail("nobody did the slot %d of %d", slot, len(did))
		}
		log = append(log, q)
	}
	return log
}

func (w *wild) tale(first []int) *tale {
	w.t.Helper()
	l, _ := ledger.New(conf(0, first...))
	x := &tale{log: w.common(), states: map[[2]int]string{{0, 0}: l.Text()}, confs: []api.Conf{l.Conf()}, came: map[string]api.Result{}}
	for i, q := range x.log {
		last, _ := l.Last(q.Client)
		result, _ := l.Do(q)
		if q.Stamp > last {
			x.came[textOf(q)] = result
		}
		x.states[[2]int{l.Conf().Epoch, i + 1}] = l.Text()
		if l.Full() && l.Turn() == api.OK {
			x.states[[2]int{l.Conf().Epoch, i + 1}] = l.Text()
			x.confs = append(x.confs, l.Conf())
		}
	}
	return x
}

// isSound tells if no configuration that follows has more bad members than its faults.
func (x *tale) isSound(bad []int) bool {
	for _, c := range x.confs {
		n := 0
		for _, id := range c.Members {
			if slices.Contains(bad, id) {
				n++
			}
		}
		if n > council.Faults(len(c.Members)) {
			return false
		}
	}
	return true
}

// expectWhole holds W1 to W4, and answers what follows from the common log.
func (w *wild) expectWhole(first []int) *tale {
	w.t.Helper()
	x := w.tale(first)
	if !x.isSound(w.bad) {
		w.fail("more are bad than may be: no world to be asked")
	}
	for _, id := range w.w.Replicas() {
		r := w.w.Replica(id)
		if r.State() != x.states[[2]int{r.Epoch(), r.Done()}] {
			w.fail("the state of %d isn't what follows from the log", id)
		}
		w.expectChain(x, id, r.Chain())
	}
	for _, id := range w.w.Clients() {
		c := w.w.Client(id)
		w.expectChain(x, node+id, c.Chain())
		for i, e := range c.Accepted() {
			want, ok := x.came[textOf(e.Req)]
			if got := c.Results()[i]; !ok || tell(got) != tell(want) || e.Slot != i+1 || e.Req.Stamp != i+1 {
				w.fail("the client %d accepted %v, asked %v", id, got, want)
			}
		}
	}
	for i, q := range x.log {
		isAsked := slices.ContainsFunc(w.asked, func(y api.Request) bool { return textOf(y) == textOf(q) })
		if q != (api.Request{}) && !slices.Contains(w.bad, node+q.Client) && !isAsked {
			w.fail("in the slot %d something was done that nobody asked", i+1)
		}
	}
	return x
}

func (w *wild) expectChain(x *tale, by int, chain []api.Link) {
	w.t.Helper()
	if len(chain) >= len(x.confs) {
		w.fail("%d knows of the epoch %d, and the log ends in %d", by, len(chain), len(x.confs)-1)
	}
	for i, link := range chain {
		if tell(link.Conf) != tell(x.confs[i+1]) {
			w.fail("%d has a chain that isn't what follows from the log", by)
		}
	}
}

// Any scripts with one bad member of four to seven, and bad clients: all goes on as one.
func TestTheWhole(t *testing.T) {
	far, views, accepted := 0, 0, 0
	for seed := range int64(25) {
		first := firstOf(4 + int(seed%4))
		bad := [][]int{nil, {0}, {3}, {1, 101}, {2, 103, 104}}[seed%5]
		w := wildOf(t, seed, first, 8, 4, bad...)
		w.gaps = 100
		for range 2000 {
			w.step()
		}
		w.expectBounds()
		x := w.expectWhole(first)
		far = max(far, len(x.log))
		for _, id := range w.w.Replicas() {
			views = max(views, w.w.Replica(id).View())
		}
		for _, id := range w.w.Clients() {
			accepted = max(accepted, len(w.w.Client(id).Accepted()))
		}
	}
	if far < 20 || views < 2 || accepted < 5 {
		t.Error("no world came further than", far, "slots, the view", views, "or", accepted, "requests that were accepted")
	}
}

// W6: it goes on where all arrives.

// With nobody bad each request is accepted within eight rounds and four ticks, in epochs with members that come and go.
func TestNobodyIsBad(t *testing.T) {
	p := pairOf(t, firstOf(4), 8, 8)
	p.gaps = 7
	for i := range 40 {
		id := 1 + i%clients
		o := put("k", float64(i))
		switch i {
		case 3, 9, 17:
			o = join(4 + i%4) // 7, 5, 5
		case 12, 20:
			o = leave(i % 3) // 0, 2
		}
		accepted := len(p.w.Client(id).Accepted())
		p.must(ask(id, o), flush(8))
		for range 4 {
			p.must(tick(-1), flush(8))
		}
		if got := p.w.Client(id).Accepted(); len(got) != accepted+1 || got[accepted].Req.Op != o {
			t.Fatal(i, got)
		}
	}
	chain := p.w.Client(1).Chain()
	if got := chain[9].Conf.Members; !slices.Equal(got, []int{1, 3, 5, 7}) {
		t.Error(got)
	}
	for _, id := range []int{1, 3, 5, 7} {
		if r := p.w.Replica(id); r.Done() != 40 || r.Epoch() != 10 || r.View() != 0 || !r.Active() {
			t.Error(id, r.Done(), r.Epoch(), r.View())
		}
	}
}

// With one silent member of four each request is accepted within 24 ticks, whoever is silent, through views and epochs.
func TestOneIsSilent(t *testing.T) {
	for silent := range 4 {
		p := pairOf(t, firstOf(4), 4, 2, silent)
		p.gaps = 7
		for i := range 12 {
			id := 1 + i%2
			accepted := len(p.w.Client(id).Accepted())
			p.must(ask(id, put("k", float64(i))), flush(8))
			from := p.w.Now()
			for len(p.w.Client(id).Accepted()) == accepted {
				if p.w.Now() == from+24 {
					t.Fatalf("%d is silent: the request %d isn't accepted within 24 ticks", silent, i)
				}
				p.must(tick(-1), flush(8))
			}
		}
	}
}

// The document's ten examples of the whole. (The first one is the chapter's, too.)

func expectAccepted(t *testing.T, p *pair, client, n int) {
	t.Helper()
	if got := len(p.w.Client(client).Accepted()); got != n {
		p.fail("the client %d accepted %d, asked %d", client, got, n)
	}
}

// rounds lets so many ticks of all go by, in which all arrives.
func rounds(p *pair, ticks int) {
	p.t.Helper()
	for range ticks {
		p.must(tick(-1), flush(8))
	}
}

func TestSecondExample(t *testing.T) {
	p := four(t, 0)
	p.must(ask(1, put("k", 1)), flush(8))
	rounds(p, 8)
	for id := 1; id < 4; id++ {
		if r := p.w.Replica(id); r.View() != 1 || r.Done() != 1 || !r.Active() {
			t.Error(id, r.View(), r.Done())
		}
	}
	expectAccepted(t, p, 1, 1)
}

func TestThirdExample(t *testing.T) {
	p := four(t)
	endEpoch(p, 1)
	for id := range 4 {
		r := p.w.Replica(id)
		if chain := r.Chain(); r.Epoch() != 1 || len(chain) != 1 || len(chain[0].Sigs) < 3 || chain[0].Conf.Epoch != 1 {
			t.Error(id, r.Epoch(), chain)
		}
	}
}

func TestFourthExample(t *testing.T) {
	p := pairOf(t, firstOf(4), 5, 1)
	p.must(ask(1, join(4)), flush(8))
	for range 3 {
		p.must(ask(1, put("k", 1)), flush(8))
	}
	if r := p.w.Replica(4); r.Epoch() != 0 || r.Done() != 0 {
		t.Error(r.Epoch(), r.Done())
	}
	rounds(p, 4)
	if r := p.w.Replica(4); r.Epoch() != 1 || r.Done() != 4 || r.State() != p.w.Replica(0).State() || len(r.History()) != 0 {
		t.Error(r.Epoch(), r.Done())
	}
	p.must(ask(1, put("k", 2)), flush(8))
	if r := p.w.Replica(4); r.Done() != 5 || len(r.History()) != 1 || r.History()[0].Slot != 5 {
		t.Error(r.Done(), r.History())
	}
}

func TestFifthExample(t *testing.T) {
	p := four(t)
	p.must(ask(1, leave(2)), flush(8))
	if got := p.w.Client(1).Results(); len(got) != 1 || got[0] != (api.Result{Code: api.CodeFew}) {
		t.Error(got)
	}
	for range 3 {
		p.must(ask(2, put("k", 1)), flush(8))
	}
	if got := p.w.Replica(2).Chain(); len(got) != 1 || !slices.Equal(got[0].Conf.Members, firstOf(4)) {
		t.Error(got)
	}
}

// A bad primary proposes two requests in one slot to two halves: neither is committed, or one; the view changes.
func TestSixthExample(t *testing.T) {
	one, other := request(1, 1, put("k", 1)), request(2, 1, put("k", 2))
	for _, prepares := range []bool{false, true} {
		p := four(t, 0)
		p.must(ask(1, one.Op), ask(2, other.Op))
		p.must(inject(0, 1, proposeMsg(0, 0, 1, one)), inject(0, 2, proposeMsg(0, 0, 1, other)), inject(0, 3, proposeMsg(0, 0, 1, other)))
		if prepares {
			for to := 1; to < 4; to++ {
				p.must(inject(0, to, prepareMsg(0, 0, 0, 1, one)), inject(0, to, prepareMsg(0, 0, 0, 1, other)))
			}
		}
		p.must(flush(8))
		done := map[string]bool{}
		for id := 1; id < 4; id++ {
			for _, e := range p.w.Replica(id).History() {
				done[textOf(e.Req)] = true
			}
		}
		if len(done) > 1 {
			t.Error("both are committed", prepares)
		}
		rounds(p, 24)
		for id := 1; id < 4; id++ {
			r := p.w.Replica(id)
			if r.View() == 0 || r.Done() != 2 || r.State() != p.w.Replica(1).State() {
				t.Error(prepares, id, r.View(), r.Done())
			}
		}
		expectAccepted(t, p, 1, 1)
		expectAccepted(t, p, 2, 1)
	}
}

func TestSeventhExample(t *testing.T) {
	p := four(t, 3)
	q := request(1, 1, put("k", 1))
	p.must(ask(1, q.Op))
	for range 4 {
		p.must(drop(0))
	}
	for to := range 3 {
		p.must(inject(3, to, commitMsg(0, 0, 1, q)), copyOf(-1))
	}
	p.must(flush(8))
	for id := range 3 {
		if r := p.w.Replica(id); r.Done() != 0 || r.View() != 0 {
			t.Error(id, r.Done())
		}
	}
	expectAccepted(t, p, 1, 0)
	rounds(p, 4) // it asks anew
	expectAccepted(t, p, 1, 1)
}

func TestEighthExample(t *testing.T) {
	p := pairOf(t, firstOf(4), 5, 2, 3)
	for range 3 {
		endEpoch(p, 1)
		rounds(p, 4)
	}
	var state api.Msg
	for _, x := range p.m.sent {
		if x.Msg.Kind == api.MState && len(x.Msg.Links) == 3 {
			state = clone(x.Msg)
		}
	}
	if len(state.Links) != 3 {
		t.Fatal("nobody told the state of the epoch 3")
	}
	whole := clone(state)
	state.Links[2].Sigs = state.Links[2].Sigs[:2]
	short := pairOf(t, firstOf(4), 5, 2, 0, 1, 2, 3) // all who sign are bad here, so that it may be said
	for _, to := range []int{4, 101, 102} {
		short.must(inject(3, to, state))
	}
	short.must(flush(1))
	if short.w.Replica(4).Epoch() != 0 || short.w.Client(1).Epoch() != 0 || len(short.w.Client(2).Chain()) != 0 {
		t.Error("some of the chain was taken")
	}
	short.must(inject(3, 4, whole), inject(3, 101, whole), flush(1))
	if short.w.Replica(4).Epoch() != 3 || short.w.Client(1).Epoch() != 3 {
		t.Error(short.w.Replica(4).Epoch(), short.w.Client(1).Epoch())
	}
}

func TestNinthExample(t *testing.T) {
	for _, bits := range []uint64{0x7FF0000000000000, 0xFFF0000000000000} {
		p := four(t)
		p.must(ask(1, put("k", nanOf(bits))), flush(8))
		p.must(ask(1, api.Op{Kind: api.OpAdd, Key: "k", Real: nanOf(bits ^ 1<<63)}), flush(8))
		if got := p.w.Client(1).Results(); len(got) != 2 || tell(got[1]) != tell(api.Result{Real: nanOf(0x7FF8000000000000)}) {
			t.Error(tell(got))
		}
		for id := range 4 {
			r := p.w.Replica(id)
			if r.State() != p.w.Replica(0).State() || !strings.Contains(r.State(), "k\x7f\xf8\x00\x00\x00\x00\x00\x00") {
				t.Errorf("%d %q", id, r.State())
			}
		}
	}
}

// A replica that heard nothing for an epoch takes the state that three others signed, and goes on.
func TestTenthExample(t *testing.T) {
	p := four(t)
	for range 4 {
		p.must(ask(1, put("k", 1)))
		for p.w.Len() > 0 { // all that goes to 3 is lost
			to3 := slices.IndexFunc(p.m.row, func(x api.Packet) bool { return x.To == 3 })
			if to3 >= 0 {
				p.must(drop(to3))
			} else {
				p.must(deliver(0))
			}
		}
	}
	if p.w.Replica(3).Done() != 0 || p.w.Replica(0).Epoch() != 1 {
		t.Fatal(p.w.Replica(3).Done(), p.w.Replica(0).Epoch())
	}
	rounds(p, 4)
	if r := p.w.Replica(3); r.Epoch() != 1 || r.Done() != 4 || len(r.History()) != 0 || r.State() != p.w.Replica(0).State() {
		t.Error(r.Epoch(), r.Done())
	}
	p.must(ask(1, put("k", 2)), flush(8))
	if r := p.w.Replica(3); r.Done() != 5 || len(r.History()) != 1 {
		t.Error(r.Done())
	}
}
