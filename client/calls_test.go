package client_test

import (
	"math"
	"strings"
	"testing"

	"witan/api"
	"witan/client"
)

// New, Ask and Tick, each with what it refuses and at its edges.

func TestNew(t *testing.T) {
	for id := 1; id <= clients; id++ {
		for _, members := range [][]int{firstOf(4), firstOf(10), spread(4), spread(10), {12, 13, 14, 15}, {3, 7, 8, 9, 10, 12}} {
			p := pairOf(t, id, members...)
			p.accepted(0, false)
			p.knows(0)
			p.expect(p.tick(4), p.to(members, fetchMsg(0))...)
		}
	}
}

func TestNewOfWrongArguments(t *testing.T) {
	for _, id := range []int{0, 9, -1, 10, 100, 101, 108, 255, 256, 257, math.MinInt, math.MaxInt} {
		if c, e := client.New(id, conf(0, 0, 1, 2, 3)); c != nil || e != api.ErrArg {
			t.Error(id, c, e)
		}
	}
	for _, first := range []api.Conf{
		{}, conf(0), conf(0, 0, 1, 2), conf(0, firstOf(11)...), conf(0, firstOf(16)...),
		conf(0, 0, 1, 2, 16), conf(0, -1, 0, 1, 2), conf(0, 0, 1, 1, 2), conf(0, 0, 2, 1, 3), conf(0, 3, 2, 1, 0), conf(0, 0, 0, 0, 0),
		conf(1, 0, 1, 2, 3), conf(-1, 0, 1, 2, 3), conf(lastEpoch, 0, 1, 2, 3), conf(lastEpoch+1, 0, 1, 2, 3), conf(math.MinInt, 0, 1, 2, 3), conf(math.MaxInt, 0, 1, 2, 3),
		conf(0, math.MinInt, 0, 1, math.MaxInt),
	} {
		for _, id := range []int{1, 5, 8, 0, 9} {
			if c, e := client.New(id, first); c != nil || e != api.ErrArg {
				t.Error(id, first, c, e)
			}
		}
	}
}

// rightOps answers operations of each kind, at the edges of what is right.
func rightOps() []api.Op {
	long := strings.Repeat("k", maxKey)
	all := []api.Op{get("k"), get("\x00"), get(long), {Kind: api.OpCut, Key: long}, {Kind: api.OpAdd, Key: "k", Real: 1}, {Kind: api.OpMax, Key: "k", Real: -1}}
	for _, x := range []float64{0, minusNought, 0.1, math.Inf(1), math.Inf(-1), math.NaN(), nanOf(0xfff8000000000001), nanOf(0x7ff0000000000001), math.SmallestNonzeroFloat64, math.MaxFloat64} {
		all = append(all, put("k", x), put(long, x))
	}
	for id := range ids {
		all = append(all, join(id), api.Op{Kind: api.OpLeave, ID: id})
	}
	return all
}

// wrongOps answers operations that are wrong in one thing each.
func wrongOps() []api.Op {
	long := strings.Repeat("k", maxKey+1)
	return []api.Op{
		{}, {Kind: -1}, {Kind: 8}, {Kind: 8, Key: "k"}, {Kind: math.MinInt, Key: "k"}, {Kind: math.MaxInt, Key: "k"}, {Key: "k"},
		put("", 1), put(long, 1), put(strings.Repeat("k", 70000), 1), {Kind: api.OpPut, Key: "k", ID: 1}, {Kind: api.OpAdd, Real: 1}, {Kind: api.OpMax, Key: long},
		get(""), get(long), {Kind: api.OpGet, Key: "k", Real: 1}, {Kind: api.OpGet, Key: "k", Real: minusNought}, {Kind: api.OpGet, Key: "k", ID: -1}, {Kind: api.OpCut, Key: "k", Real: math.NaN()},
		join(-1), join(16), join(101), join(math.MinInt), join(math.MaxInt), {Kind: api.OpJoin, ID: 1, Key: "k"}, {Kind: api.OpLeave, ID: 1, Real: 1}, {Kind: api.OpLeave, ID: 16},
	}
}

// The next request has the next stamp, and goes to each member, rising, with the client's signature.
func TestAsk(t *testing.T) {
	for _, o := range rightOps() {
		p := pairOf(t, 3, 1, 4, 9, 15)
		if e := p.tryAsk(o); e != api.OK {
			t.Error(o, e)
		}
		q := byBits(request(3, 1, o))
		p.accepted(0, true)
		p.expect(p.tick(4), p.to([]int{1, 4, 9, 15}, askMsg(q), fetchMsg(0))...)
	}
	for id := 1; id <= clients; id++ {
		for _, members := range [][]int{firstOf(4), spread(7), spread(10)} {
			p := pairOf(t, id, members...)
			got, e := p.c.Ask(get("k"))
			if e != api.OK {
				t.Error(e)
			}
			p.expect(got, p.to(members, askMsg(request(id, 1, get("k"))))...)
		}
	}
}

func TestAskOfWrongOperations(t *testing.T) {
	for _, o := range wrongOps() {
		p := pairOf(t, 3, 0, 1, 2, 3)
		if e := p.tryAsk(o); e != api.ErrArg {
			t.Error(o, e)
		}
		p.accepted(0, false)
		if q := p.ask(get("k")); q.Stamp != 1 {
			t.Error("a refused operation used a stamp", q)
		}
	}
}

// While a request is open another one is refused, and a wrong one for what is wrong in it; both leave all as it was.
func TestAskWhileOneIsOpen(t *testing.T) {
	p := pairOf(t, 3, 0, 1, 2, 3)
	q := p.ask(get("k"))
	p.handle(1, 2, replyMsg(0, q, result(api.CodeOK, 1)))
	for _, o := range rightOps() {
		if e := p.tryAsk(o); e != api.ErrState {
			t.Error(o, e)
		}
	}
	for _, o := range wrongOps() {
		if e := p.tryAsk(o); e != api.ErrArg {
			t.Error(o, e)
		}
	}
	p.accepted(0, true)
	p.expect(p.tick(4), p.to(firstOf(4), askMsg(q), fetchMsg(0))...)
	p.handle(1, 3, replyMsg(0, q, result(api.CodeOK, 1)))
	p.accepted(1, false)
	if q = p.ask(get("k")); q.Stamp != 2 {
		t.Error(q)
	}
}

// Up to the last stamp each request has the next one; then there is none, and it is told so while the last one is open, too.
func TestLastStamp(t *testing.T) {
	t.Parallel()
	c, _ := client.New(8, conf(0, 0, 1, 2, 3))
	x := result(api.CodeNull, minusNought)
	for stamp := 1; stamp <= maxStamp; stamp++ {
		if l, e := c.Ask(join(1)); e != api.OK || len(l) != 4 || l[3].Msg.Req.Stamp != stamp {
			t.Fatal(stamp, e)
		}
		q := request(8, stamp, join(1))
		c.Handle(1, 3, replyMsg(0, q, x))
		if stamp == maxStamp {
			if l, e := c.Ask(join(1)); len(l) != 0 || e != api.ErrArg {
				t.Error("past the last stamp, while one is open", e)
			}
		}
		c.Handle(1, 1, replyMsg(0, q, x))
	}
	for range 2 {
		if l, e := c.Ask(join(1)); len(l) != 0 || e != api.ErrArg {
			t.Error("past the last stamp", e)
		}
	}
	if _, isOpen := c.Open(); isOpen {
		t.Error("open")
	}
	got := c.Accepted()
	if n := len(got); n != maxStamp || got[n-1] != (api.Entry{Slot: maxStamp, Req: request(8, maxStamp, join(1))}) {
		t.Error(n)
	}
	if l := c.Tick(4); len(l) != 4 {
		t.Error(l)
	}
}

// Each fourth time it tells again, whatever the number; the others it doesn't.
func TestWhenItTells(t *testing.T) {
	for _, epochs := range []int{0, 1, 3} {
		p := knowing(t, 7, roadOf(0, 1, 2, 3).stay(epochs))
		for now := -9; now <= 9; now++ {
			tells := now == -8 || now == -4 || now == 0 || now == 4 || now == 8
			got := p.tick(now)
			if !tells {
				p.expect(got)
				continue
			}
			p.expect(got, p.to(firstOf(4), fetchMsg(epochs))...)
		}
		q := p.ask(put("k", 1))
		for now := 100; now <= 110; now++ {
			got := p.tick(now)
			if now != 100 && now != 104 && now != 108 {
				p.expect(got)
				continue
			}
			p.expect(got, p.to(firstOf(4), askMsg(q), fetchMsg(epochs))...)
		}
	}
	p := pairOf(t, 7, 0, 1, 2, 3)
	for _, now := range []int{math.MinInt, math.MinInt + 4, math.MaxInt - 3, -1 << 40, 1 << 40, 1000000} {
		p.expect(p.tick(now), p.to(firstOf(4), fetchMsg(0))...)
	}
	for _, now := range []int{math.MinInt + 1, math.MinInt + 2, math.MaxInt, math.MaxInt - 1, math.MaxInt - 2, 1<<40 + 1, 1000002} {
		p.expect(p.tick(now))
	}
}

// It tells those who are members of the last epoch that it knows, and no others.
func TestWhomItTells(t *testing.T) {
	r := roadOf(0, 1, 2, 3)
	p := pairOf(t, 2, 0, 1, 2, 3)
	q := p.ask(get("k"))
	for epoch, members := range [][]int{{0, 1, 2, 3, 9}, {1, 2, 3, 9}, spread(10), {0, 3, 5, 6, 8, 10}} {
		r.walk(members...)
		p.handle(1, 0, r.state())
		p.expect(p.tick(8), p.to(members, askMsg(q), fetchMsg(epoch+1))...)
	}
	p.handle(1, 3, replyMsg(4, q, api.Result{}))
	p.handle(1, 5, replyMsg(4, q, api.Result{}))
	q = p.ask(get("m"))
	p.expect(p.tick(8), p.to([]int{0, 3, 5, 6, 8, 10}, askMsg(q), fetchMsg(4))...)
	got, e := p.c.Ask(get("n"))
	if len(got) != 0 || e != api.ErrState {
		t.Error(got, e)
	}
}

// The message of each kind that fits: all but replies and states come to nothing, of whomever.
func somethingOfEach(q api.Request) []api.Msg {
	sig := api.Sig{By: 1, Text: "x"}
	return []api.Msg{
		askMsg(q),
		{Kind: api.MPropose, Slot: 1, Req: q, Sigs: []api.Sig{{By: node + q.Client, Text: textOf(q)}}},
		{Kind: api.MPropose, Slot: 1},
		{Kind: api.MPrepare, Slot: 1, Req: q, Sigs: []api.Sig{sig}},
		{Kind: api.MCommit, Slot: 1, Req: q},
		{Kind: api.MVote, Slot: 4, Text: "st", Next: firstOf(5), Sigs: []api.Sig{sig, sig}},
		{Kind: api.MChange, View: 1, Changes: []api.Change{{From: 1, View: 1, Sig: sig}}},
		{Kind: api.MNewView, View: 1, Changes: []api.Change{{From: 1, View: 1, Sig: sig}}},
		replyMsg(0, q, result(api.CodeOK, 1)),
		fetchMsg(0),
		roadOf(0, 1, 2, 3).stay(1).state(),
	}
}

func TestOtherKinds(t *testing.T) {
	for _, isOpen := range []bool{false, true} {
		p := pairOf(t, 1, 0, 1, 2, 3)
		q := request(1, 1, get("k"))
		if isOpen {
			p.ask(get("k"))
		}
		for _, m := range somethingOfEach(q) {
			if m.Kind == api.MReply || m.Kind == api.MState {
				continue
			}
			for _, from := range []int{0, 1, 2, 3, 4, 101, 102} {
				p.handle(1, from, m)
			}
		}
		p.accepted(0, isOpen)
		p.knows(0)
	}
}

// R7: a client that is nil answers none, at each call. One that New didn't make answers likewise.
func TestNilAndZeroClients(t *testing.T) {
	for _, c := range []*client.Client{nil, {}} {
		for range 2 {
			for _, o := range append(rightOps(), wrongOps()...) {
				if out, e := c.Ask(o); len(out) != 0 || e != api.ErrArg {
					t.Error(tellAll(out), e)
				}
			}
			for _, m := range somethingOfEach(request(1, 1, get("k"))) {
				for _, from := range []int{0, 1, 2, 101} {
					if out := c.Handle(4, from, m); len(out) != 0 {
						t.Error(tellAll(out))
					}
				}
			}
			for _, now := range []int{0, 1, 4, 8, -4, math.MinInt, math.MaxInt} {
				if out := c.Tick(now); len(out) != 0 {
					t.Error(tellAll(out))
				}
			}
			if q, isOpen := c.Open(); isOpen || q != (api.Request{}) {
				t.Error(q, isOpen)
			}
			if c.Epoch() != 0 || len(c.Chain()) != 0 || len(c.Accepted()) != 0 || len(c.Results()) != 0 {
				t.Error(c.Epoch(), c.Chain(), c.Accepted(), c.Results())
			}
		}
	}
}

// W0: any times, any numbers of nodes, and any messages.
func TestAnyArguments(t *testing.T) {
	numbers := []int{math.MinInt, -1 << 40, -201, -1, 0, 1, 2, 9, 16, 99, 100, 101, 199, 200, 255, 256, 1 << 20, 1 << 40, math.MaxInt}
	p := pairOf(t, 1, 0, 1, 2, 3)
	q := p.ask(get("k"))
	for _, now := range numbers {
		p.tick(now)
		for _, from := range numbers {
			for _, m := range somethingOfEach(q) {
				p.handle(now, from, m)
			}
		}
	}
	for _, n := range numbers {
		for _, m := range []api.Msg{
			{Kind: n}, {Kind: n, Epoch: n, View: n, Slot: n}, {Kind: api.MReply, Epoch: n, Req: q}, replyMsg(0, request(n, 1, get("k")), api.Result{}), replyMsg(0, request(1, n, get("k")), api.Result{}),
			replyMsg(0, q, api.Result{Code: n}), {Kind: api.MState, Epoch: n}, {Kind: api.MState, Epoch: 1, Slot: n, Text: "st"}, stateMsg(api.Link{Conf: conf(n, 0, 1, 2, 3)}),
			stateMsg(api.Link{Conf: conf(1, n, 1, 2, 3)}), stateMsg(api.Link{Conf: conf(1, 0, 1, 2, 3), Sigs: signatures("x", n, n)}),
		} {
			for _, from := range numbers {
				p.handle(n, from, m)
			}
		}
		p.tryAsk(api.Op{Kind: n, Key: "k", ID: n})
	}
}
