package saga_test

import (
	"math/rand"
	"slices"
	"testing"

	"witan/api"
	"witan/saga"
)

// R4, R6: memory, and that asking changes nothing. pairOf lends what it hands in and spoils it; here what is kept or answered is named one by one.

// tellSaga answers a text of all that can be asked.
func tellSaga(s *saga.Saga, log []api.Request) string {
	var list []any
	for n := range maxSlot + 1 {
		for _, turned := range []bool{false, true} {
			text, ok := s.State(n, turned)
			list = append(list, text, ok)
		}
		c, ok := s.Conf(n)
		list = append(list, c, ok)
	}
	for _, q := range log {
		slot, x, ok := s.Outcome(q)
		list = append(list, slot, x, ok)
	}
	for id := range ids {
		list = append(list, s.Sound([]int{id, (id + 1) % ids}))
	}
	return tell(append(list, s.Len())...)
}

// What New is handed is the caller's own: the members, the log, and the keys' bytes.
func TestWhatNewIsHanded(t *testing.T) {
	c, log := conf(0, 0, 1, 2, 3), rising(1, put("key", 1), join(4), get("key"), leave(0), get("key"))
	kept := clone(log)
	s, e := saga.New(c, log)
	if e != api.OK {
		t.Fatal(e)
	}
	before := tellSaga(s, kept)
	copy(c.Members, []int{7, 8, 9, 10})
	for i := range log {
		log[i] = request(9, -1, put("spoilt", 9))
	}
	if tellSaga(s, kept) != before {
		t.Error("it hangs on what was handed in")
	}
	if slot, x, ok := s.Outcome(kept[2]); slot != 3 || x != (api.Result{Real: 1}) || !ok {
		t.Error(slot, x, ok)
	}
}

// A key's bytes are the caller's, too.
func TestKeysAreKept(t *testing.T) {
	log := rising(1, put("key", 1), put("other", 2), get("key"), put("key", 3), get("other"))
	handed := clone(log)
	var l loan
	l.lend(&handed)
	s, _ := saga.New(conf(0, 0, 1, 2, 3), handed)
	merged, _ := saga.Merge([][]api.Entry{history(1, handed...)})
	before := tellSaga(s, log)
	l.spoil()
	if tellSaga(s, log) != before || tell(merged) != tell(log) {
		t.Error("it hangs on what was handed in", merged)
	}
}

// Two sagas of one log share nothing, nor do two answers of one.
func TestConfsAreNew(t *testing.T) {
	log := rising(1, join(4), join(5), leave(0), put("k", 1), put("k", 2))
	c := conf(0, 0, 1, 2, 3)
	one, _ := saga.New(c, log)
	other, _ := saga.New(c, log)
	want := [][]int{{0, 1, 2, 3}, {1, 2, 3, 4, 5}}
	for range 3 {
		for epoch, members := range want {
			x, _ := one.Conf(epoch)
			y, _ := one.Conf(epoch)
			_ = append(x.Members[:1], 77)
			x.Members[0] = 78
			z, _ := other.Conf(epoch)
			if !slices.Equal(y.Members, members) || !slices.Equal(z.Members, members) {
				t.Error(epoch, y, z)
			}
		}
		if !one.Sound([]int{0}) || one.Sound([]int{0, 1}) {
			t.Error("sound")
		}
	}
	if tellSaga(one, log) != tellSaga(other, log) {
		t.Error("they share something")
	}
}

// Whatever is asked, in whatever order, the answers stay.
func TestAskingChangesNothing(t *testing.T) {
	r := rand.New(rand.NewSource(3))
	log := anyLog(r, 50)
	s, _ := saga.New(conf(0, firstOf(5)...), log)
	before := tellSaga(s, log)
	for range 2000 {
		switch r.Intn(5) {
		case 0:
			s.State(r.Intn(60)-5, true)
		case 1:
			s.State(r.Intn(60)-5, false)
		case 2:
			s.Conf(r.Intn(70) - 5)
		case 3:
			s.Outcome(log[r.Intn(len(log))])
		case 4:
			s.Sound([]int{r.Intn(16), r.Intn(16)})
		}
	}
	if tellSaga(s, log) != before {
		t.Error("asking changed something")
	}
}

// Two of the same log tell the same, however the other one was asked meanwhile, and whatever was refused.
func TestTwoSagasOfOneLog(t *testing.T) {
	for seed := range int64(20) {
		r := rand.New(rand.NewSource(seed))
		log := anyLog(r, r.Intn(80))
		c := conf(0, firstOf(4)...)
		one, _ := saga.New(c, log)
		text := tellSaga(one, log)
		saga.New(c, append(clone(log), wrongRequests()[0]))
		saga.New(c, nulls(245))
		other, _ := saga.New(clone(c), clone(log))
		if tellSaga(other, log) != text || tellSaga(one, log) != text {
			t.Error(seed)
		}
	}
}
