package saga_test

import (
	"math/rand"
	"testing"

	"witan/api"
	"witan/saga"
)

// P22.2: what a saga of a log's beginning tells, that of the log tells, too.

// expectTells holds that the saga of the log tells all that the one of its beginning does.
func expectTells(t *testing.T, whole, begun *saga.Saga, log []api.Request) {
	t.Helper()
	if begun.Len() > whole.Len() {
		t.Fatal(begun.Len(), whole.Len())
	}
	for n := -1; n <= maxSlot+1; n++ {
		for _, turned := range []bool{false, true} {
			want, ok := begun.State(n, turned)
			if got, is := whole.State(n, turned); ok && (got != want || !is) {
				t.Fatalf("the state behind %d, turned %t: %q, was %q", n, turned, got, want)
			}
		}
	}
	for epoch := -1; epoch <= lastEpoch+1; epoch++ {
		want, ok := begun.Conf(epoch)
		if got, is := whole.Conf(epoch); ok && (tell(got) != tell(want) || !is) {
			t.Fatalf("the configuration %d: %v, was %v", epoch, got, want)
		}
	}
	for _, q := range log {
		slot, x, ok := begun.Outcome(q)
		if n, y, is := whole.Outcome(q); ok && (n != slot || tell(x) != tell(y) || !is) {
			t.Fatalf("%v came in %d to %v, was %d, %v", q, n, y, slot, x)
		}
	}
	for id := range ids {
		for other := range id + 1 {
			if bad := []int{id, other}; !begun.Sound(bad) && whole.Sound(bad) {
				t.Fatal(bad, "were too many, and aren't any more")
			}
		}
	}
}

func TestBeginnings(t *testing.T) {
	for seed := range int64(6) {
		r := rand.New(rand.NewSource(seed))
		log := anyLog(r, 40+r.Intn(9))
		c := conf(0, firstOf(4+int(seed))...)
		before, _ := saga.New(c, nil)
		for n := range len(log) + 1 {
			s, e := saga.New(c, log[:n])
			if e != api.OK {
				t.Fatal(e)
			}
			expectTells(t, s, before, log)
			before = s
		}
		for _, n := range []int{0, 3, 4, 5, 20, 36} {
			s, _ := saga.New(c, log[:n])
			expectTells(t, before, s, log)
		}
	}
}

// To the last slot.
func TestBeginningsOfTheLongest(t *testing.T) {
	log := anyLog(rand.New(rand.NewSource(9)), maxSlot)
	c := conf(0, firstOf(4)...)
	whole, _ := saga.New(c, log)
	for _, n := range []int{0, 1, 100, 236, 239, 240, 241, 243, 244} {
		s, e := saga.New(c, log[:n])
		if e != api.OK {
			t.Fatal(n, e)
		}
		expectTells(t, whole, s, log)
	}
}

// Of histories that grow the logs are each other's beginnings, and so is what follows from them.
func TestHistoriesThatGrow(t *testing.T) {
	r := rand.New(rand.NewSource(4))
	log := anyLog(r, 50)
	c := conf(0, firstOf(4)...)
	before, _ := saga.New(c, nil)
	for n := range len(log) + 1 {
		got, e := saga.Merge([][]api.Entry{history(1, log[:n/2]...), history(n/2+1, log[n/2:n]...), history(n/3+1, log[n/3:n]...)})
		if e != api.OK || len(got) != n {
			t.Fatal(n, e)
		}
		s, e := saga.New(c, got)
		if e != api.OK || s.Len() != n {
			t.Fatal(n, e)
		}
		expectTells(t, s, before, log)
		before = s
	}
}
