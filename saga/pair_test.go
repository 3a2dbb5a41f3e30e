package saga_test

import (
	"math"
	"math/rand"
	"testing"

	"witan/api"
	"witan/saga"
)

// pair is a saga and its model, of the same first configuration and log. What was handed in is as it was, and then spoilt.
type pair struct {
	t *testing.T
	s *saga.Saga
	m *model
}

func pairOf(t *testing.T, first []int, log []api.Request) *pair {
	t.Helper()
	c, q := conf(0, first...), clone(log)
	var l loan
	l.lend(&c)
	l.lend(&q)
	s, e := saga.New(c, q)
	if e != api.OK || s == nil {
		t.Fatal(first, log, e)
	}
	if tell(c, q) != tell(conf(0, first...), log) {
		t.Fatal("what was handed in was changed", c, q)
	}
	l.spoil()
	return &pair{t: t, s: s, m: &model{first: conf(0, first...), log: clone(log)}}
}

// expectAll holds all that can be asked against the model.
func (p *pair) expectAll() {
	p.t.Helper()
	p.expectLen()
	for _, n := range oddNumbers() {
		p.expectState(n)
		p.expectConf(n)
	}
	for _, q := range p.m.log {
		p.expectOutcomes(q)
	}
	for _, q := range wrongRequests() {
		p.expectOutcome(q)
	}
	p.expectOutcome(null())
	p.expectSounds()
}

func (p *pair) expectLen() {
	p.t.Helper()
	if got := p.s.Len(); got != len(p.m.log) {
		p.t.Fatalf("%v: the length %d, asked %d", p.m, got, len(p.m.log))
	}
}

func (p *pair) expectState(n int) {
	p.t.Helper()
	for _, turned := range []bool{false, true, false} {
		got, ok := p.s.State(n, turned)
		if want, is := p.m.state(n, turned); got != want || ok != is {
			p.t.Fatalf("%v: the state behind %d, turned %t: %q %t, asked %q %t", p.m, n, turned, got, ok, want, is)
		}
	}
}

// expectConf asks twice, in new memory each time.
func (p *pair) expectConf(epoch int) {
	p.t.Helper()
	want, is := p.m.conf(epoch)
	for range 2 {
		got, ok := p.s.Conf(epoch)
		if tell(got) != tell(want) || ok != is {
			p.t.Fatalf("%v: the configuration %d: %v %t, asked %v %t", p.m, epoch, got, ok, want, is)
		}
		spoil(&got)
	}
}

// expectOutcomes asks for the request and for some that are nearly it.
func (p *pair) expectOutcomes(q api.Request) {
	p.t.Helper()
	p.expectOutcome(q)
	for _, change := range []func(q *api.Request){
		func(q *api.Request) { q.Client++ },
		func(q *api.Request) { q.Stamp++ },
		func(q *api.Request) { q.Stamp-- },
		func(q *api.Request) { q.Op.Kind++ },
		func(q *api.Request) { q.Op.Key += "!" },
		func(q *api.Request) { q.Op.ID++ },
		func(q *api.Request) { q.Op.Real = math.NaN() },
		func(q *api.Request) { q.Op.Real = -q.Op.Real },
		func(q *api.Request) { q.Op.Real++ },
	} {
		other := q
		change(&other)
		p.expectOutcome(other)
	}
}

func (p *pair) expectOutcome(q api.Request) {
	p.t.Helper()
	var l loan
	handed := q
	l.lend(&handed)
	slot, result, ok := p.s.Outcome(handed)
	if tell(handed) != tell(q) {
		p.t.Fatal("what was handed in was changed")
	}
	l.spoil()
	if n, want, is := p.m.outcome(q); tell(slot, result, ok) != tell(n, want, is) {
		p.t.Fatalf("%v: the request %v came in %d to %v %t, asked %d %v %t", p.m, q, slot, result, ok, n, want, is)
	}
}

func (p *pair) expectSounds() {
	p.t.Helper()
	r := rand.New(rand.NewSource(int64(len(p.m.log))))
	p.expectSound(nil)
	p.expectSound(firstOf(ids))
	p.expectSound([]int{-1, 16, 101, math.MinInt, math.MaxInt})
	for id := range ids {
		p.expectSound([]int{id})
		p.expectSound([]int{id, id, id})
		p.expectSound([]int{r.Intn(ids), id})
		p.expectSound([]int{101, r.Intn(ids), id, r.Intn(ids)})
	}
}

func (p *pair) expectSound(bad []int) {
	p.t.Helper()
	handed := clone(bad)
	var l loan
	l.lend(&handed)
	got := p.s.Sound(handed)
	if tell(handed) != tell(bad) {
		p.t.Fatal("what was handed in was changed")
	}
	l.spoil()
	if want := p.m.sound(bad); got != want {
		p.t.Fatalf("%v: with %v bad it is sound: %t, asked %t", p.m, bad, got, want)
	}
}
