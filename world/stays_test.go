package world_test

import (
	"slices"
	"testing"

	"witan/api"
	"witan/world"
)

// R4: memory. pair lends all that it hands in and spoils it behind each call; here what is kept or answered is named one by one.

// The lists that New is handed are the caller's own.
func TestWhatNewIsHanded(t *testing.T) {
	c, bad := conf(0, 0, 1, 2, 3), []int{3, 102}
	w, e := world.New(c, 4, 2, bad)
	if e != api.OK {
		t.Fatal(e)
	}
	copy(c.Members, []int{9, 9, 9, 9})
	copy(bad, []int{0, 101})
	expectThere(t, w, []int{0, 1, 2}, []int{1})
	for from := range 4 {
		want := api.ErrArg
		if from == 3 {
			want = api.OK
		}
		if e := w.Do(inject(from, 0, fetchMsg(0))); e != want {
			t.Error(from, e)
		}
	}
	if e := w.Do(ask(1, put("k", 1))); e != api.OK {
		t.Error(e)
	}
	w.Do(flush(8))
	for _, id := range []int{0, 1, 2} {
		if w.Replica(id).Done() != 1 {
			t.Error(id)
		}
	}
}

// Two worlds of the same lists share nothing.
func TestTwoWorldsOfOneList(t *testing.T) {
	c, bad := conf(0, 0, 1, 2, 3), []int{3}
	one, _ := world.New(c, 4, 1, bad)
	other, _ := world.New(c, 4, 1, bad)
	one.Do(ask(1, put("k", 1)))
	one.Do(flush(8))
	one.Do(tick(-1))
	expectThere(t, other, []int{0, 1, 2}, []int{1})
	if other.Replica(0).Done() != 0 || other.Replica(0) == one.Replica(0) || other.Client(1) == one.Client(1) {
		t.Error("they share something")
	}
}

// Lists that are answered are new memory, each time.
func TestListsAreNew(t *testing.T) {
	w := worldOf(t, firstOf(4), 6, 4, 2, 103)
	for range 3 {
		for _, call := range []func() []int{w.Replicas, w.Clients} {
			one, other := call(), call()
			was := slices.Clone(other)
			one[0] = 77
			_ = append(one[:1], 78)
			if !slices.Equal(other, was) || !slices.Equal(call(), was) {
				t.Error(other, was)
			}
		}
	}
}

// Replica and Client answer those of the world: the same one each time, and who calls what changes one changes the world.
func TestNodesAreTheWorldsOwn(t *testing.T) {
	w := worldOf(t, firstOf(4), 4, 2)
	if w.Replica(0) != w.Replica(0) || w.Client(1) != w.Client(1) || w.Replica(0) == w.Replica(1) || w.Client(1) == w.Client(2) {
		t.Error("not the same one each time")
	}
	l, e := w.Client(1).Ask(put("k", 1))
	if e != api.OK || len(l) != 4 || w.Len() != 0 {
		t.Fatal(e, w.Len())
	}
	if e := w.Do(ask(1, put("k", 2))); e != api.ErrState {
		t.Error("its request isn't open", e)
	}
	for range 4 {
		w.Do(tick(101)) // it asks anew
	}
	w.Do(flush(8))
	if len(w.Client(1).Accepted()) != 1 || w.Replica(3).Done() != 1 {
		t.Error("its request isn't done")
	}
	r := w.Replica(1)
	for now := range 200 {
		r.Tick(now)
		r.Handle(now, 101, askMsg(request(1, 2, put("k", 2))))
	}
	if view := w.Replica(1).View(); view == 0 || view != r.View() || w.Now() != 4 {
		t.Error(view, w.Now())
	}
}

// What is under way is no one's but the lane's: a packet that is copied comes as it was, whatever became of the other one, and so does what an honest node sent again and again.
func TestCopiesAreApart(t *testing.T) {
	p := four(t, 3)
	for _, m := range mixed(3) {
		p.must(inject(3, 0, m), copyOf(-1), copyOf(-1), deliver(0), copyOf(0), deliver(-1))
	}
	p.drain()
	p.must(ask(1, put("k", 1)), copyOf(0), copyOf(1), deliver(0), copyOf(3), deliver(0), copyOf(-1), copyOf(-2))
	p.drain()
}

// A text that a step brings is kept by itself: the key of what is asked, and the texts of what is injected.
func TestTextsAreKept(t *testing.T) {
	w := worldOf(t, firstOf(4), 4, 1, 3)
	var l loan
	x := ask(1, put("key", 1))
	l.lend(&x)
	w.Do(x)
	l.spoil()
	y := inject(3, 0, prepareMsg(3, 0, 0, 1, request(1, 1, put("key", 1))))
	var m loan
	m.lend(&y)
	if e := w.Do(y); e != api.OK {
		t.Fatal(e)
	}
	m.spoil()
	w.Do(flush(8))
	if q := w.Replica(0).History(); len(q) != 1 || q[0].Req != request(1, 1, put("key", 1)) {
		t.Error(q)
	}
	if q := w.Client(1).Accepted(); len(q) != 1 || q[0].Req.Op.Key != "key" {
		t.Error(q)
	}
}
