package lanes_test

import (
	"math/rand"
	"slices"
	"testing"

	"witan/api"
	"witan/client"
	"witan/lanes"
	"witan/replica"
	"witan/wire"
)

// town is a council whose packets go by a lane.
type town struct {
	t        *testing.T
	lane     *lanes.Lane
	replicas map[int]*replica.Replica
	client   *client.Client
	now      int
}

// townOf answers one of the members 0 to 3, of whom these are bad, and a client.
func townOf(t *testing.T, bad ...int) *town {
	t.Helper()
	first := api.Conf{Members: []int{0, 1, 2, 3}}
	c, e := client.New(1, first)
	if e != api.OK {
		t.Fatal(e)
	}
	w := &town{t: t, lane: lanes.New(bad), replicas: map[int]*replica.Replica{}, client: c}
	for _, id := range first.Members {
		if slices.Contains(bad, id) {
			continue
		}
		if w.replicas[id], e = replica.New(id, first); e != api.OK {
			t.Fatal(e)
		}
	}
	return w
}

func (w *town) ask(x float64) {
	w.t.Helper()
	l, e := w.client.Ask(api.Op{Kind: api.OpPut, Key: "k", Real: x})
	if e != api.OK {
		w.t.Fatal(e)
	}
	w.lane.Send(l...)
}

func (w *town) deliver(n int) {
	w.t.Helper()
	p, ok := w.lane.Take(n)
	if !ok {
		w.t.Fatal("nothing is under way")
	}
	if r := w.replicas[p.To]; r != nil {
		w.lane.Send(r.Handle(w.now, p.From, p.Msg)...)
	} else if p.To == 101 {
		w.lane.Send(w.client.Handle(w.now, p.From, p.Msg)...)
	}
}

func (w *town) tick() {
	w.now++
	for id := range 4 {
		if r := w.replicas[id]; r != nil {
			w.lane.Send(r.Tick(w.now)...)
		}
	}
	w.lane.Send(w.client.Tick(w.now)...)
}

// flush delivers rounds of all that is under way, the first one first.
func (w *town) flush(rounds int) {
	w.t.Helper()
	for range rounds {
		for range w.lane.Len() {
			w.deliver(0)
		}
	}
}

// A council goes on by what a lane hands on in order: four requests, and the epoch 1 begins.
func TestACouncilByALane(t *testing.T) {
	w := townOf(t)
	for i := range 4 {
		w.ask(float64(i))
		w.flush(8)
		if got := len(w.client.Accepted()); got != i+1 {
			t.Fatalf("%d are accepted of %d", got, i+1)
		}
	}
	w.flush(8)
	for id, r := range w.replicas {
		if r.Epoch() != 1 || r.Done() != 4 || r.State() != w.replicas[0].State() {
			t.Error(id, r.Epoch(), r.Done())
		}
	}
	if got := w.client.Results(); len(got) != 4 || got[3] != (api.Result{Real: 3}) {
		t.Error(got)
	}
}

// It goes on where packets are lost, doubled and turned about, and a bad member injects what it saw: all replicas are alike.
func TestACouncilByAWildLane(t *testing.T) {
	for seed := range int64(12) {
		w, r := townOf(t, 3), rand.New(rand.NewSource(seed))
		injected := 0
		for range 600 {
			if _, isOpen := w.client.Open(); !isOpen && len(w.client.Accepted()) < 6 {
				w.ask(1)
			}
			if w.lane.Len() == 0 || r.Intn(40) == 0 {
				w.tick()
				continue
			}
			switch n := r.Intn(200); r.Intn(12) {
			case 0:
				w.lane.Drop(n)
			case 1:
				w.lane.Copy(n)
			case 2:
				injected += w.replay(n, r.Intn(4))
			default:
				w.deliver(n)
			}
		}
		if injected == 0 {
			t.Error("nothing was injected", seed)
		}
		w.expectAlike()
	}
}

// replay makes the bad member inject as its own what it sees under way, and tells how often that went. What was sent may always be injected again.
func (w *town) replay(n, to int) int {
	w.t.Helper()
	p, ok := w.lane.Take(n)
	if !ok || w.lane.Len() >= maxLane-1 {
		return 0
	}
	if e := w.lane.Inject(packet(3, to, p.Msg)); e != api.OK {
		w.t.Fatal(e)
	}
	for _, s := range wire.Terms(p.Msg) {
		s.Text += "!"
		if e := w.lane.Inject(packet(3, to, prepare(s))); s.By != 3 && e != api.ErrSig {
			w.t.Fatal(s, e)
		}
	}
	return 1
}

// expectAlike holds that those honest replicas that did as much have one state, and that no two did unlike requests in one slot.
func (w *town) expectAlike() {
	w.t.Helper()
	var longest []api.Entry
	states := map[int]string{}
	for _, r := range w.replicas {
		if state, ok := states[r.Done()]; ok && state != r.State() {
			w.t.Error("unlike states behind", r.Done())
		}
		states[r.Done()] = r.State()
		for _, x := range r.History() {
			at := slices.IndexFunc(longest, func(y api.Entry) bool { return y.Slot == x.Slot })
			if at < 0 {
				longest = append(longest, x)
			} else if longest[at] != x {
				w.t.Error("unlike requests", longest[at], x)
			}
		}
	}
}
