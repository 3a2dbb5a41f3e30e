package client_test

import (
	"math/rand"
	"slices"
	"testing"

	"witan/api"
	"witan/client"
)

// P19.1 and P19.2 in any rows, and P19.3: what strangers send changes nothing.

// wild tells what comes next, by chance from a seed.
type wild struct {
	*rand.Rand
	id    int
	roads []*road // what may be learned: the first one is the way that goes on, the others fork from it
}

func wildOf(seed int64) *wild {
	r := rand.New(rand.NewSource(seed))
	w := &wild{Rand: r, id: 1 + r.Intn(clients)}
	w.roads = []*road{roadOf(w.members()...)}
	for range 3 {
		w.roads[0].walk(w.members()...)
	}
	for range 2 {
		cut := w.Intn(3)
		fork := &road{first: w.roads[0].first, links: slices.Clone(w.roads[0].links[:cut])}
		w.roads = append(w.roads, fork.walk(w.members()...).walk(w.members()...))
	}
	return w
}

// members answers right members, most of them of the first few numbers.
func (w *wild) members() []int {
	bound := 6 + w.Intn(11)
	list := w.Perm(bound)[:4+w.Intn(min(bound, 10)-3)]
	slices.Sort(list)
	return list
}

func (w *wild) op() api.Op {
	ops := []api.Op{get("k"), get("m"), put("k", 1), put("k", minusNought), join(4), {}, get("")}
	return ops[w.Intn(len(ops))]
}

func (w *wild) result() api.Result {
	return []api.Result{{}, {Code: 1}, {Real: minusNought}, {Code: 9}}[[]int{0, 0, 0, 0, 0, 1, 1, 2, 2, 3}[w.Intn(10)]]
}

// request answers mostly the one that is open, and otherwise one of its kind.
func (w *wild) request(c *client.Client) api.Request {
	q, isOpen := c.Open()
	if isOpen && w.Intn(8) > 0 {
		return q
	}
	return request(1+w.Intn(9), w.Intn(5), w.op())
}

// reply answers a reply, mostly of an epoch that is known.
func (w *wild) reply(c *client.Client) api.Msg {
	return replyMsg(max(0, c.Epoch()+1-w.Intn(4)), w.request(c), w.result())
}

// state answers a state with links of one of the roads; sometimes a signature is missing.
func (w *wild) state() api.Msg {
	r := w.roads[[]int{0, 0, 0, 1, 2}[w.Intn(5)]]
	m := stateMsg(r.links[:w.Intn(len(r.links)+1)]...)
	if len(m.Links) > 0 && w.Intn(3) == 0 {
		l := &m.Links[w.Intn(len(m.Links))]
		l.Sigs = l.Sigs[1:]
	}
	return m
}

// from answers who sends, mostly a member of one of the epochs.
func (w *wild) from() int {
	if w.Intn(12) == 0 {
		return []int{-1, 16, 100, 101, 108, 199}[w.Intn(6)]
	}
	return w.Intn(ids)
}

// step tells the pair the next thing.
func (w *wild) step(p *pair) {
	switch n := w.Intn(20); {
	case n < 3:
		p.tryAsk(w.op())
	case n < 5:
		p.tick(w.Intn(9) - 2)
	case n < 7 && w.Intn(4) == 0:
		p.handle(w.Intn(9), w.from(), w.state())
	case n == 7:
		m := somethingOfEach(request(1, 1, get("k")))
		p.handle(w.Intn(9), w.from(), m[w.Intn(len(m)-1)])
	default:
		p.handle(w.Intn(9), w.from(), w.reply(p.c))
	}
}

func TestAnyRows(t *testing.T) {
	t.Parallel()
	accepted, learned := 0, 0
	for seed := range int64(400) {
		w := wildOf(seed)
		p := pairOf(t, w.id, w.roads[0].first.Members...)
		for range 150 {
			w.step(p)
		}
		accepted += len(p.m.taken)
		learned += p.m.epoch()
	}
	if accepted < 1000 || learned < 400 {
		t.Error("too little came of it", accepted, learned)
	}
}

// strange answers a message that no member of a configuration of the road sent, and that is no longer chain: replies of any kind, also of epochs of which it will be known that the sender is no member, states of what is known, of forks, and broken ones.
func (w *wild) strange(c *client.Client) (int, api.Msg) {
	var strangers []int
	for id := -1; id < 17; id++ {
		isOne := slices.Contains(w.roads[0].first.Members, id)
		for _, l := range w.roads[0].links {
			isOne = isOne || slices.Contains(l.Conf.Members, id)
		}
		if !isOne {
			strangers = append(strangers, id)
		}
	}
	strangers = append(strangers, 101, 108, 199)
	from := strangers[w.Intn(len(strangers))]
	switch w.Intn(6) {
	case 0:
		return from, stateMsg(w.roads[0].links[:c.Epoch()]...)
	case 1:
		m := w.roads[0].state()
		m.Links[w.Intn(c.Epoch()+1)%len(m.Links)].Sigs = nil
		return from, m
	case 2:
		m := somethingOfEach(request(w.id, 1, get("k")))
		return from, m[w.Intn(len(m)-1)]
	}
	return from, w.reply(c)
}

// Two clients are told the same, but for strangers' messages, of which one hears more: they stand and answer alike, whatever comes behind.
func TestStrangersChangeNothing(t *testing.T) {
	t.Parallel()
	accepted := 0
	for seed := range int64(300) {
		w := wildOf(seed)
		w.roads = w.roads[:1]
		w.roads = append(w.roads, w.roads[0], w.roads[0])
		p := pairOf(t, w.id, w.roads[0].first.Members...)
		other, _ := client.New(w.id, w.roads[0].first)
		for range 100 {
			for range w.Intn(3) {
				from, m := w.strange(other)
				other.Handle(1, from, m)
			}
			expectAlike(t, p.c, other)
			switch n := w.Intn(20); {
			case n < 3:
				o := w.op()
				want := p.tryAsk(o)
				if _, e := other.Ask(o); e != want {
					t.Fatal(e, want)
				}
			case n == 3:
				m := w.state()
				p.handle(1, 1, m)
				other.Handle(1, 1, m)
			default:
				from, m := w.from(), w.reply(p.c)
				p.handle(1, from, m)
				other.Handle(1, from, m)
			}
			expectAlike(t, p.c, other)
		}
		accepted += len(p.m.taken)
	}
	if accepted < 300 {
		t.Error("too little came of it", accepted)
	}
}

// expectAlike holds all that both answer against each other.
func expectAlike(t *testing.T, a, b *client.Client) {
	t.Helper()
	q, isOpen := a.Open()
	r, isOpenToo := b.Open()
	if isOpen != isOpenToo || !isEqualReq(q, r) || a.Epoch() != b.Epoch() || tellAll(a.Tick(4)) != tellAll(b.Tick(4)) {
		t.Fatal("unlike:", tellReq(q), tellReq(r), a.Epoch(), b.Epoch())
	}
	if !slices.EqualFunc(a.Chain(), b.Chain(), isEqualLink) || !slices.EqualFunc(a.Results(), b.Results(), isEqualResult) {
		t.Fatal("unlike chains or results")
	}
	if len(a.Accepted()) != len(b.Accepted()) {
		t.Fatal("unlike:", len(a.Accepted()), len(b.Accepted()))
	}
}

// Two clients beside each other, told by turns: neither knows of the other one.
func TestTwoBesideEachOther(t *testing.T) {
	t.Parallel()
	for seed := range int64(60) {
		a, b := wildOf(seed), wildOf(seed+1000)
		p, q := pairOf(t, a.id, a.roads[0].first.Members...), pairOf(t, b.id, b.roads[0].first.Members...)
		for range 100 {
			a.step(p)
			q.expectAsked()
			b.step(q)
			p.expectAsked()
		}
	}
	// The same number and the same council: what the one is told the other one isn't.
	p, q := pairOf(t, 3, 0, 1, 2, 3), pairOf(t, 3, 0, 1, 2, 3)
	r := p.ask(get("k"))
	q.accepted(0, false)
	q.ask(put("m", 1))
	p.handle(1, 0, replyMsg(0, r, result(0, 1)))
	q.handle(1, 1, replyMsg(0, r, result(0, 1)))
	p.accepted(0, true)
	p.handle(1, 1, replyMsg(0, r, result(0, 1)))
	p.handle(1, 0, fourToFour().state())
	p.accepted(1, false)
	q.accepted(0, true)
	q.knows(0)
}
