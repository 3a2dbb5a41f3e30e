package saga_test

import (
	"math"
	"math/rand"
	"slices"
	"testing"

	"witan/api"
	"witan/saga"
)

// P22.1, New: each wrong argument, alone and in order.

func expectNoSaga(t *testing.T, c api.Conf, log []api.Request, want api.Errno) {
	t.Helper()
	s, e := saga.New(c, log)
	if s != nil || e != want {
		t.Errorf("of %v and %v: %v %d, asked %d", c, log, s, e, want)
	}
}

func wrongFirsts() []api.Conf {
	return []api.Conf{
		{},
		conf(0, 0),
		conf(0, 0, 1, 2),
		conf(0, firstOf(11)...),
		conf(0, firstOf(16)...),
		conf(0, 0, 1, 2, 2),
		conf(0, 0, 0, 1, 2, 3),
		conf(0, 0, 1, 3, 2),
		conf(0, 3, 2, 1, 0),
		conf(0, 0, 1, 2, 16),
		conf(0, -1, 0, 1, 2),
		conf(0, 0, 1, 2, math.MaxInt),
		conf(0, math.MinInt, 0, 1, 2),
		conf(1, 0, 1, 2, 3),
		conf(-1, 0, 1, 2, 3),
		conf(60, 0, 1, 2, 3),
		conf(61, 0, 1, 2, 3),
		conf(math.MaxInt, 0, 1, 2, 3),
		conf(math.MinInt, 0, 1, 2, 3),
	}
}

func TestNewOfWrongFirsts(t *testing.T) {
	for _, c := range wrongFirsts() {
		expectNoSaga(t, c, nil, api.ErrArg)
		expectNoSaga(t, c, rising(1, put("k", 1)), api.ErrArg)
		expectNoSaga(t, c, wrongRequests()[:1], api.ErrArg)
		expectNoSaga(t, c, nulls(245), api.ErrArg)
	}
}

func TestNewOfRightFirsts(t *testing.T) {
	for _, first := range [][]int{{0, 1, 2, 3}, {12, 13, 14, 15}, {0, 5, 9, 15}, firstOf(5), firstOf(9), firstOf(10), {6, 7, 8, 9, 10, 11, 12, 13, 14, 15}} {
		pairOf(t, first, nil).expectAll()
		pairOf(t, first, rising(1, leave(15), join(0), join(11), leave(9), put("k", 1))).expectAll()
	}
}

func TestNewOfWrongRequests(t *testing.T) {
	c := conf(0, 0, 1, 2, 3)
	right := rising(1, put("k", 1), put("k", 2), put("k", 3), join(4), put("k", 5))
	for _, q := range wrongRequests() {
		expectNoSaga(t, c, []api.Request{q}, api.ErrArg)
		for i := range len(right) + 1 {
			expectNoSaga(t, c, slices.Insert(slices.Clone(right), i, q), api.ErrArg)
		}
	}
}

// A log may be as long as there are slots. One that is longer is told of only where nothing else is wrong, behind the last slot too.
func TestNewOfLongLogs(t *testing.T) {
	c := conf(0, 0, 1, 2, 3)
	for _, n := range []int{0, 1, 3, 4, 5, 240, 241, 243, 244} {
		if s, e := saga.New(c, nulls(n)); e != api.OK || s.Len() != n {
			t.Error(n, e)
		}
	}
	wrong := wrongRequests()[0]
	for _, n := range []int{245, 246, 248, 300, 5000} {
		expectNoSaga(t, c, nulls(n), api.ErrLong)
		expectNoSaga(t, c, anyLog(rand.New(rand.NewSource(1)), n), api.ErrLong)
		for _, place := range []int{0, 100, 243, 244, n} {
			expectNoSaga(t, c, slices.Insert(nulls(n), place, wrong), api.ErrArg)
		}
	}
	expectNoSaga(t, c, append(nulls(243), wrong), api.ErrArg)
	expectNoSaga(t, c, append(nulls(244), wrong), api.ErrArg)
}

// Of nil, and of one that New didn't make: 0, nothing, false.
func TestNoSaga(t *testing.T) {
	for _, s := range []*saga.Saga{nil, {}} {
		for _, n := range oddNumbers() {
			for _, turned := range []bool{false, true} {
				if text, ok := s.State(n, turned); text != "" || ok {
					t.Error(n, turned, text, ok)
				}
			}
			if c, ok := s.Conf(n); c.Epoch != 0 || len(c.Members) != 0 || ok {
				t.Error(n, c, ok)
			}
		}
		for _, q := range append(wrongRequests(), null(), request(1, 1, put("k", 1)), request(8, 3, join(4))) {
			if n, x, ok := s.Outcome(q); n != 0 || x != (api.Result{}) || ok {
				t.Error(q, n, x, ok)
			}
		}
		for _, bad := range [][]int{nil, {}, {0}, {101}, firstOf(ids)} {
			if s.Sound(bad) {
				t.Error(bad)
			}
		}
		if s.Len() != 0 {
			t.Error(s.Len())
		}
	}
}
