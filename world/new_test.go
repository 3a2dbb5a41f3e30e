package world_test

import (
	"math"
	"slices"
	"testing"

	"witan/api"
	"witan/world"
)

// P21.1: a new world. pairOf holds each against the model; here who is there is written out.

func expectThere(t *testing.T, w *world.World, replicas, ofClients []int) {
	t.Helper()
	if got := w.Replicas(); !slices.Equal(got, replicas) {
		t.Errorf("the replicas are %v, asked %v", got, replicas)
	}
	if got := w.Clients(); !slices.Equal(got, ofClients) {
		t.Errorf("the clients are %v, asked %v", got, ofClients)
	}
	for _, id := range oddNumbers() {
		if r := w.Replica(id); (r != nil) != slices.Contains(replicas, id) || r != nil && r.ID() != id {
			t.Error("the replica", id)
		}
		if c := w.Client(id); (c != nil) != slices.Contains(ofClients, id) {
			t.Error("the client", id)
		}
	}
	if w.Now() != 0 || w.Len() != 0 {
		t.Error(w.Now(), w.Len())
	}
}

// Of each number of replicas and of clients, at all edges.
func TestNewOfEachCount(t *testing.T) {
	for n := -3; n <= 20; n++ {
		for k := -3; k <= 12; k++ {
			w, e := world.New(conf(0, 0, 1, 2, 3), n, k, nil)
			if n < 1 || n > ids || k < 0 || k > clients {
				if w != nil || e != api.ErrArg {
					t.Error(n, k, e)
				}
				continue
			}
			if e != api.OK {
				t.Fatal(n, k, e)
			}
			expectThere(t, w, firstOf(n), clientsOf(k))
		}
	}
	for _, n := range []int{math.MinInt, math.MaxInt, 1 << 32, 1<<32 + 4, -1 << 40, 255, 256, 260} {
		if w, e := world.New(conf(0, 0, 1, 2, 3), n, 1, nil); w != nil || e != api.ErrArg {
			t.Error(n, e)
		}
		if w, e := world.New(conf(0, 0, 1, 2, 3), 4, n, nil); w != nil || e != api.ErrArg {
			t.Error(n, e)
		}
	}
}

func TestNewOfAFirstConfigurationThatIsNotRight(t *testing.T) {
	everyoneBad := append(firstOf(16), 101)
	for i, c := range []api.Conf{
		{}, conf(0, 0, 1, 2), firstConf(11), conf(0, 0, 1, 2, 16), conf(0, -1, 0, 1, 2), conf(0, 0, 2, 1, 3), conf(0, 0, 1, 1, 3), conf(0, 3, 2, 1, 0),
		conf(1, 0, 1, 2, 3), conf(-1, 0, 1, 2, 3), conf(60, 0, 1, 2, 3), conf(61, 0, 1, 2, 3), conf(math.MinInt, 0, 1, 2, 3), conf(1, 0, 1, 2),
	} {
		for _, bad := range [][]int{nil, {0}, everyoneBad} {
			if w, e := world.New(c, 4, 1, bad); w != nil || e != api.ErrArg {
				t.Error(i, bad, e)
			}
			if w, e := world.New(c, 4, 0, bad); w != nil || e != api.ErrArg {
				t.Error(i, bad, e)
			}
		}
	}
}

func firstConf(n int) api.Conf { return conf(0, firstOf(n)...) }

// The first configuration's members may be any right ones, whoever is there.
func TestNewOfEachFirstConfiguration(t *testing.T) {
	for _, c := range []api.Conf{firstConf(4), firstConf(7), firstConf(10), conf(0, 12, 13, 14, 15), conf(0, 0, 5, 10, 15), conf(0, 6, 7, 8, 9, 10, 11, 12, 13, 14, 15)} {
		for _, n := range []int{1, 4, 16} {
			p := pairOf(t, c.Members, n, 1)
			expectThere(t, p.w, firstOf(n), []int{1})
			p.must(ask(1, put("k", 1)))
			if p.w.Len() != len(c.Members) {
				t.Error(c, p.w.Len())
			}
			p.must(flush(8))
		}
	}
}

// Bad nodes that are replicas, clients, both, all of them, none, or nowhere; also twice, and in any order.
func TestNewOfBadNodes(t *testing.T) {
	everyone := append(firstOf(16), 101, 102, 103, 104, 105, 106, 107, 108)
	for _, x := range []struct{ bad, replicas, clients []int }{
		{nil, []int{0, 1, 2, 3, 4}, []int{1, 2, 3}},
		{[]int{}, []int{0, 1, 2, 3, 4}, []int{1, 2, 3}},
		{[]int{0}, []int{1, 2, 3, 4}, []int{1, 2, 3}},
		{[]int{4}, []int{0, 1, 2, 3}, []int{1, 2, 3}},
		{[]int{5, 15, 16}, []int{0, 1, 2, 3, 4}, []int{1, 2, 3}},
		{[]int{101}, []int{0, 1, 2, 3, 4}, []int{2, 3}},
		{[]int{103}, []int{0, 1, 2, 3, 4}, []int{1, 2}},
		{[]int{100, 104, 108, 109}, []int{0, 1, 2, 3, 4}, []int{1, 2, 3}},
		{[]int{1, 2}, []int{0, 3, 4}, []int{1, 2, 3}}, // a client is bad by its node alone
		{[]int{102, 3, 101, 3}, []int{0, 1, 2, 4}, []int{3}},
		{[]int{-1, 200, math.MinInt, math.MaxInt, math.MinInt + 1, 99}, []int{0, 1, 2, 3, 4}, []int{1, 2, 3}},
		{everyone, nil, nil},
		{everyone[:16], nil, []int{1, 2, 3}},
		{everyone[16:], []int{0, 1, 2, 3, 4}, nil},
		{[]int{-100, -99, -96, 256, 1<<32 + 1, 1<<32 + 101}, []int{0, 1, 2, 3, 4}, []int{1, 2, 3}},
	} {
		p := pairOf(t, firstOf(4), 5, 3, x.bad...)
		expectThere(t, p.w, x.replicas, x.clients)
		for _, from := range append(oddNumbers(), x.bad...) {
			want := api.ErrArg
			if slices.Contains(x.bad, from) {
				want = api.OK
			}
			if e := p.do(inject(from, 2, fetchMsg(0))); e != want {
				t.Errorf("of %v by %d: %d", x.bad, from, e)
			}
		}
		p.must(flush(2))
	}
}

// A world in which there is nobody to be moved, and one whose nodes are all bad.
func TestNobodyIsThere(t *testing.T) {
	p := pairOf(t, firstOf(4), 4, 0, 0, 1, 2, 3)
	expectThere(t, p.w, nil, nil)
	p.refused(tick(0), api.ErrIndex)
	p.refused(ask(1, put("k", 1)), api.ErrIndex)
	p.must(tick(-1), inject(3, 0, fetchMsg(0)), inject(3, 101, fetchMsg(0)), copyOf(0), deliver(0), drop(1), flush(1))
	if p.w.Now() != 1 || p.w.Len() != 0 {
		t.Error(p.w.Now(), p.w.Len())
	}
}

// R7: of nil, at each call. The zero world is as one in which nobody is there and nobody is bad.
func TestNilAndZeroWorlds(t *testing.T) {
	var none *world.World
	for range 2 {
		for _, kind := range oddNumbers() {
			for _, n := range []int{-1, 0, 1, 17} {
				if e := none.Do(api.Do{Kind: kind, N: n, Op: get("k"), Msg: fetchMsg(0)}); e != api.ErrArg {
					t.Error(kind, e)
				}
			}
		}
		expectThere(t, none, nil, nil)
	}
	zero := &world.World{}
	expectThere(t, zero, nil, nil)
	for _, x := range []struct {
		step api.Do
		want api.Errno
	}{
		{deliver(0), api.ErrIndex}, {drop(0), api.ErrIndex}, {copyOf(0), api.ErrIndex}, {tick(0), api.ErrIndex}, {tick(101), api.ErrIndex}, {ask(1, get("k")), api.ErrIndex},
		{inject(0, 1, fetchMsg(0)), api.ErrArg}, {flush(17), api.ErrArg}, {flush(3), api.OK}, {api.Do{}, api.ErrKind}, {tick(-1), api.OK},
	} {
		if e := zero.Do(x.step); e != x.want {
			t.Error(x.step, e)
		}
	}
	if zero.Now() != 1 {
		t.Error(zero.Now())
	}
}
