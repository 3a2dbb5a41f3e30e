package world_test

import (
	"math/rand"
	"testing"

	"witan/api"
	"witan/world"
)

// P21.2: two worlds that are alike at first do the same by the same script; a step that is refused changes nothing.

func worldOf(t *testing.T, first []int, n, k int, bad ...int) *world.World {
	t.Helper()
	w, e := world.New(conf(0, first...), n, k, bad)
	if e != api.OK {
		t.Fatal(e)
	}
	return w
}

// script answers steps by chance, most of which aren't refused in a world of four replicas, two clients, and the bad member 3.
func script(r *rand.Rand, count int) []api.Do {
	var list []api.Do
	for range count {
		list = append(list, anyStep(r))
	}
	return list
}

func anyStep(r *rand.Rand) api.Do {
	switch n := r.Intn(40); {
	case n < 10:
		return deliver(r.Intn(9))
	case n < 13:
		return drop(r.Intn(99) - 9)
	case n < 16:
		return copyOf(r.Intn(99) - 9)
	case n < 21:
		return tick(-1)
	case n < 22:
		return tick(r.Intn(6) - 1)
	case n < 23:
		return tick(r.Intn(4) + 100)
	case n < 30:
		return ask(r.Intn(4), anyOp(r))
	case n < 33:
		list := mixed(3)
		return inject(r.Intn(5), r.Intn(5), list[r.Intn(len(list))])
	case n < 35:
		return inject(3, r.Intn(4), prepareMsg(3, r.Intn(2), r.Intn(2), 1+r.Intn(5), request(1, 1, put("k", 1))))
	case n < 39:
		return flush(r.Intn(4))
	}
	return api.Do{Kind: r.Intn(12) - 2, N: r.Intn(30) - 5}
}

func anyOp(r *rand.Rand) api.Op {
	key := []string{"a", "b", "c"}[r.Intn(3)]
	switch r.Intn(9) {
	case 0:
		return join(r.Intn(7))
	case 1:
		return leave(r.Intn(6))
	case 2:
		return get(key)
	case 3:
		return api.Op{Kind: api.OpAdd, Key: key, Real: anyReal(r)}
	case 4:
		return api.Op{Kind: api.OpMax, Key: key, Real: anyReal(r)}
	case 5:
		return api.Op{Kind: api.OpCut, Key: key}
	case 6:
		return api.Op{Kind: r.Intn(9), Key: key, ID: r.Intn(3)} // seldom right
	}
	return put(key, anyReal(r))
}

func anyReal(r *rand.Rand) float64 {
	switch r.Intn(4) {
	case 0:
		return nanOf(0x7FF0000000000001 + uint64(r.Intn(99)))
	case 1:
		return nanOf([]uint64{0x7FF0000000000000, 0xFFF0000000000000, 1 << 63}[r.Intn(3)])
	case 2:
		return nanOf(r.Uint64())
	}
	return float64(r.Intn(9))
}

// Beside each other, step by step, with a third one by another script between them.
func TestTwoWorldsByOneScript(t *testing.T) {
	for seed := range int64(30) {
		r := rand.New(rand.NewSource(seed))
		one, other, third := worldOf(t, firstOf(4), 6, 2, 3), worldOf(t, firstOf(4), 6, 2, 3), worldOf(t, firstOf(4), 6, 2, 3)
		for i, x := range script(r, 150) {
			e := one.Do(clone(x))
			third.Do(anyStep(r))
			if got := other.Do(clone(x)); got != e {
				t.Fatal(seed, i, got, e)
			}
			if tellWorld(one) != tellWorld(other) {
				t.Fatal(seed, i)
			}
		}
	}
}

// One behind the other, the second one in a world that was made when the first one had moved already.
func TestTheSameScriptAgain(t *testing.T) {
	for seed := range int64(20) {
		list := script(rand.New(rand.NewSource(seed)), 300)
		var ends []string
		for range 3 {
			w := worldOf(t, firstOf(4), 6, 2, 3)
			for _, x := range list {
				w.Do(x)
			}
			ends = append(ends, tellWorld(w))
		}
		if ends[0] != ends[1] || ends[0] != ends[2] {
			t.Error(seed)
		}
	}
}

// With the steps that are refused, without them, and with each of them twice.
func TestRefusedStepsChangeNothing(t *testing.T) {
	refused, taken := 0, 0
	for seed := range int64(16) {
		with, without, twice := worldOf(t, firstOf(4), 6, 2, 3), worldOf(t, firstOf(4), 6, 2, 3), worldOf(t, firstOf(4), 6, 2, 3)
		for i, x := range script(rand.New(rand.NewSource(seed)), 300) {
			e := with.Do(clone(x))
			if twice.Do(clone(x)) != e {
				t.Fatal(seed, i)
			}
			if e == api.OK {
				taken++
				if without.Do(clone(x)) != e {
					t.Fatal(seed, i)
				}
			} else {
				refused++
				if twice.Do(clone(x)) != e {
					t.Fatal(seed, i)
				}
			}
			if s := tellWorld(with); s != tellWorld(without) || s != tellWorld(twice) {
				t.Fatal(seed, i, x.Kind, x.N, e)
			}
		}
	}
	if refused < 500 || taken < 1500 {
		t.Error(refused, taken)
	}
}

// Whoever only asks changes nothing.
func TestAskingChangesNothing(t *testing.T) {
	for seed := range int64(10) {
		asked, unasked := worldOf(t, firstOf(4), 6, 2, 3), worldOf(t, firstOf(4), 6, 2, 3)
		for _, x := range script(rand.New(rand.NewSource(seed)), 300) {
			for _, id := range oddNumbers() {
				asked.Replica(id)
				asked.Client(id)
			}
			asked.Replicas()
			tellWorld(asked)
			if asked.Do(clone(x)) != unasked.Do(clone(x)) {
				t.Fatal(seed)
			}
		}
		if tellWorld(asked) != tellWorld(unasked) {
			t.Error(seed)
		}
	}
}
