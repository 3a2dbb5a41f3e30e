package client_test

import (
	"testing"

	"witan/api"
	"witan/client"
	"witan/replica"
)

// town is a council with one client, whose packets all arrive, round by round.
type town struct {
	replicas map[int]*replica.Replica
	c        *client.Client
	way      []api.Packet
	now      int
}

func townOf(t *testing.T, first api.Conf, n int) *town {
	t.Helper()
	w := &town{replicas: map[int]*replica.Replica{}}
	for id := range n {
		r, e := replica.New(id, first)
		if e != api.OK {
			t.Fatal(e)
		}
		w.replicas[id] = r
	}
	c, e := client.New(1, first)
	if e != api.OK {
		t.Fatal(e)
	}
	w.c = c
	return w
}

// rounds lets so many rounds go by: in each all that was under way at its beginning arrives.
func (w *town) rounds(n int) {
	for range n {
		arrives := w.way
		w.way = nil
		for _, p := range arrives {
			if p.To == node+1 {
				w.way = append(w.way, w.c.Handle(w.now, p.From, p.Msg)...)
			} else if r := w.replicas[p.To]; r != nil {
				w.way = append(w.way, r.Handle(w.now, p.From, p.Msg)...)
			}
		}
	}
}

func (w *town) tick() {
	w.now++
	for id := range len(w.replicas) {
		w.way = append(w.way, w.replicas[id].Tick(w.now)...)
	}
	w.way = append(w.way, w.c.Tick(w.now)...)
}

// Requests of all sorts, one behind the other, over several epochs with members that come and go: each is accepted, with what it came to, within eight rounds and four ticks.
func TestAmongReplicas(t *testing.T) {
	w := townOf(t, conf(0, 0, 1, 2, 3), 7)
	for i, step := range []struct {
		op   api.Op
		want api.Result
	}{
		{put("k", 2), result(api.CodeOK, 2)},
		{join(4), result(api.CodeOK, 0)},
		{get("m"), result(api.CodeNone, 0)},
		{api.Op{Kind: api.OpAdd, Key: "k", Real: 0.5}, result(api.CodeOK, 2.5)},
		{join(4), result(api.CodeSame, 0)},
		{api.Op{Kind: api.OpLeave, ID: 0}, result(api.CodeOK, 0)},
		{api.Op{Kind: api.OpLeave, ID: 1}, result(api.CodeFew, 0)},
		{get("k"), result(api.CodeOK, 2.5)},
		{get("k"), result(api.CodeOK, 2.5)},
		{join(6), result(api.CodeOK, 0)},
	} {
		l, e := w.c.Ask(step.op)
		if e != api.OK {
			t.Fatal(i, e)
		}
		w.way = append(w.way, l...)
		w.rounds(8)
		for range 4 {
			w.tick()
			w.rounds(8)
		}
		got := w.c.Results()
		if len(got) != i+1 || !isEqualResult(got[i], step.want) {
			t.Fatal(i, got)
		}
	}
	if w.c.Epoch() != 2 || len(w.c.Chain()) != 2 {
		t.Error(w.c.Epoch())
	}
	for i, entry := range w.replicas[2].History() {
		if mine := w.c.Accepted()[i]; mine.Slot != entry.Slot || !isEqualReq(mine.Req, entry.Req) {
			t.Error(i, mine, entry)
		}
	}
}
