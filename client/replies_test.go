package client_test

import (
	"math"
	"strings"
	"testing"

	"witan/api"
)

// Replies: which ones count, and how many are enough.

// reply is a message and who sends it.
type reply struct {
	name string
	from int
	msg  api.Msg
}

// wrongReplies answers replies that are wrong in one thing each, beside the one by the member 2 to the request in the epoch 1, where the members are 1, 2, 3 and 4.
func wrongReplies(q api.Request) []reply {
	x := result(api.CodeOK, 1.5)
	good := func(change func(*api.Msg)) api.Msg {
		m := replyMsg(1, q, x)
		change(&m)
		return m
	}
	sig := api.Sig{By: 2, Text: textOf(q)}
	var list []reply
	for _, from := range []int{0, 5, 15, -1, 16, 100, 101, 102, 199, 200, 2 - 256, 258, math.MinInt, math.MaxInt} {
		list = append(list, reply{"from another", from, replyMsg(1, q, x)})
	}
	for _, epoch := range []int{2, 3, lastEpoch, lastEpoch + 1, -1, 256, 257, math.MinInt, math.MaxInt} {
		list = append(list, reply{"of another epoch", 2, replyMsg(epoch, q, x)})
	}
	for _, other := range []api.Request{
		{}, request(2, q.Stamp, q.Op), request(0, q.Stamp, q.Op), request(9, q.Stamp, q.Op), request(1, q.Stamp-1, q.Op), request(1, q.Stamp+1, q.Op), request(1, maxStamp+1, q.Op),
		request(1, q.Stamp, put("m", q.Op.Real)), request(1, q.Stamp, put("k", 2.5)), request(1, q.Stamp, put("k", minusNought)), request(1, q.Stamp, get("k")), request(1, q.Stamp, join(2)),
		request(1, q.Stamp, api.Op{Kind: api.OpAdd, Key: "k", Real: q.Op.Real}), request(1, q.Stamp, api.Op{Kind: api.OpPut, Key: "k", Real: q.Op.Real, ID: 1}), request(1, q.Stamp, api.Op{}),
	} {
		list = append(list, reply{"to another request", 2, replyMsg(1, other, x)})
	}
	for _, code := range []int{-1, 9, 255, 256, math.MinInt, math.MaxInt} {
		list = append(list, reply{"with another code", 2, replyMsg(1, q, result(code, 1.5))})
	}
	for kind := -1; kind <= 11; kind++ {
		if kind != api.MReply {
			list = append(list, reply{"of another kind", 2, good(func(m *api.Msg) { m.Kind = kind })})
		}
	}
	return append(list,
		reply{"with a view", 2, good(func(m *api.Msg) { m.View = 1 })},
		reply{"with a slot", 2, good(func(m *api.Msg) { m.Slot = 5 })},
		reply{"with a text", 2, good(func(m *api.Msg) { m.Text = "x" })},
		reply{"with next members", 2, good(func(m *api.Msg) { m.Next = firstOf(4) })},
		reply{"with a signature", 2, good(func(m *api.Msg) { m.Sigs = []api.Sig{sig} })},
		reply{"with a change", 2, good(func(m *api.Msg) { m.Changes = []api.Change{{From: 2, View: 1, Sig: sig}} })},
		reply{"with a link", 2, good(func(m *api.Msg) { m.Links = roadOf(0, 1, 2, 3).walk(1, 2, 3, 4).links })},
	)
}

// fourToFour answers a road to the epoch 1, where 0 has gone and 4 come.
func fourToFour() *road { return roadOf(0, 1, 2, 3).walk(1, 2, 3, 4) }

// A reply that is wrong in one thing counts for nothing: neither does the right one behind it find that something came already, nor is it one of two.
func TestEachConditionOfAReply(t *testing.T) {
	for _, wrong := range wrongReplies(request(1, 1, put("k", 1.5))) {
		p := knowing(t, 1, fourToFour())
		q := p.ask(put("k", 1.5))
		right := replyMsg(1, q, result(api.CodeOK, 1.5))
		p.handle(1, wrong.from, wrong.msg)
		p.handle(1, 3, right)
		p.handle(1, wrong.from, wrong.msg)
		if p.accepted(0, true); t.Failed() {
			t.Fatal(wrong.name)
		}
		p.handle(1, 2, right)
		p.accepted(1, false)
	}
}

// The second result of one member in one epoch is passed over, be it the same or another one.
func TestOneResultAMember(t *testing.T) {
	a, b := result(api.CodeOK, 1), result(api.CodeOK, 2)
	for _, second := range []api.Result{a, b} {
		p := pairOf(t, 1, 0, 1, 2, 3)
		q := p.ask(get("k"))
		p.handle(1, 2, replyMsg(0, q, a))
		p.handle(1, 2, replyMsg(0, q, second))
		p.handle(1, 2, replyMsg(0, q, b))
		p.handle(1, 2, replyMsg(0, q, a))
		p.accepted(0, true)
		p.handle(1, 3, replyMsg(0, q, b))
		p.accepted(0, true)
		p.handle(1, 0, replyMsg(0, q, a))
		p.accepted(1, false)
		if p.c.Results()[0] != a {
			t.Error(p.c.Results())
		}
	}
}

// One of a weak quorum too few isn't enough, and the last one is; of each number of members, whoever they are.
func TestWeakQuorums(t *testing.T) {
	for n := 4; n <= 10; n++ {
		for _, members := range [][]int{firstOf(n), spread(n)} {
			for start := range n {
				p := pairOf(t, 4, members...)
				q := p.ask(get("k"))
				for i := range weakOf(n) {
					p.accepted(0, true)
					p.handle(i, members[(start+i)%n], replyMsg(0, q, result(api.CodeNone, 0)))
				}
				p.accepted(1, false)
			}
		}
	}
}

// What counts is the number of those who sent that result alike, not of those who sent any: so many sorts of results, each one short, aren't enough.
func TestUnlikeResults(t *testing.T) {
	for n := 4; n <= 10; n++ {
		p := pairOf(t, 4, firstOf(n)...)
		q := p.ask(get("k"))
		short := weakOf(n) - 1
		for id := range n - 1 {
			p.handle(1, id, replyMsg(0, q, result(id/short, 0)))
			p.accepted(0, true)
		}
		p.handle(1, n-1, replyMsg(0, q, result(0, 0)))
		p.accepted(1, false)
	}
}

// Results are alike by their texts: by the code and the real's bits.
func TestAlikeByTexts(t *testing.T) {
	nans := []float64{math.NaN(), nanOf(0x7ff8000000000000), nanOf(0xfff8000000000000), nanOf(0x7ff0000000000001), nanOf(0xffffffffffffffff)}
	unlike := []api.Result{
		{}, {Real: minusNought}, {Code: 8}, {Real: 1}, {Code: 1, Real: 1}, {Real: math.Nextafter(1, 2)}, {Real: math.SmallestNonzeroFloat64}, {Real: math.Inf(1)}, {Real: math.Inf(-1)}, {Real: math.NaN()},
	}
	for i, a := range unlike {
		for k, b := range unlike {
			p := pairOf(t, 1, 0, 1, 2, 3)
			q := p.ask(get("k"))
			p.handle(1, 0, replyMsg(0, q, a))
			p.handle(1, 1, replyMsg(0, q, b))
			isSame := 0
			if i == k {
				isSame = 1
			}
			p.accepted(isSame, i != k)
		}
	}
	for _, a := range nans {
		for _, b := range nans {
			p := pairOf(t, 1, 0, 1, 2, 3)
			q := p.ask(put("k", a))
			p.handle(1, 0, replyMsg(0, request(1, 1, put("k", b)), result(0, a)))
			p.handle(1, 1, replyMsg(0, q, result(0, b)))
			p.accepted(1, false)
			if got := math.Float64bits(p.c.Results()[0].Real); got != 0x7ff8000000000000 {
				t.Errorf("%x", got)
			}
			if got := math.Float64bits(p.c.Accepted()[0].Req.Op.Real); got != 0x7ff8000000000000 {
				t.Errorf("%x", got)
			}
		}
	}
}

// Each code and the one behind it are unlike, and each may be accepted.
func TestCodes(t *testing.T) {
	for code := api.CodeOK; code <= api.CodeNull; code++ {
		p := pairOf(t, 1, 0, 1, 2, 3)
		q := p.ask(get("k"))
		p.handle(1, 0, replyMsg(0, q, result(code, 0)))
		p.handle(1, 1, replyMsg(0, q, result((code+1)%9, 0)))
		p.accepted(0, true)
		p.handle(1, 2, replyMsg(0, q, result(code, 0)))
		p.accepted(1, false)
		if got := p.c.Results()[0].Code; got != code {
			t.Error(got, code)
		}
	}
}

// Members of two epochs don't add up, though they be the same ones: each epoch has its own count.
func TestEpochsDontAddUp(t *testing.T) {
	r := roadOf(0, 1, 2, 3).stay(2)
	x := result(api.CodeOK, 3)
	p := knowing(t, 1, r)
	q := p.ask(get("k"))
	for _, s := range []struct{ epoch, from int }{{0, 0}, {1, 1}, {2, 2}} {
		p.handle(1, s.from, replyMsg(s.epoch, q, x))
		p.accepted(0, true)
	}
	p.handle(1, 0, replyMsg(1, q, x)) // the same member once more, in another epoch
	p.accepted(1, false)
}

// A member sends another result in another epoch, and each counts for its own.
func TestOneMemberInTwoEpochs(t *testing.T) {
	a, b := result(api.CodeOK, 1), result(api.CodeOK, 2)
	p := knowing(t, 1, roadOf(0, 1, 2, 3).stay(1))
	q := p.ask(get("k"))
	p.handle(1, 0, replyMsg(0, q, a))
	p.handle(1, 0, replyMsg(1, q, b))
	p.handle(1, 1, replyMsg(0, q, b))
	p.handle(1, 1, replyMsg(1, q, a))
	p.accepted(0, true)
	p.handle(1, 2, replyMsg(0, q, a))
	p.accepted(1, false)
	if p.c.Results()[0] != a {
		t.Error(p.c.Results())
	}
}

// The weak quorum is that of the epoch of which the replies are, not of the last one that is known.
func TestWeakQuorumOfItsEpoch(t *testing.T) {
	r := roadOf(0, 1, 2, 3).walk(0, 1, 2, 3, 4, 5, 6).walk(0, 1, 2, 3)
	x := result(api.CodeOK, 3)
	for epoch, weak := range []int{2, 3, 2} {
		p := knowing(t, 1, r)
		q := p.ask(get("k"))
		for from := range weak {
			p.accepted(0, true)
			p.handle(1, from, replyMsg(epoch, q, x))
		}
		p.accepted(1, false)
	}
}

// Who was a member, or becomes one, counts in the epochs in which it is one alone.
func TestMembersOfTheEpoch(t *testing.T) {
	p := knowing(t, 1, fourToFour())
	x := result(api.CodeOK, 3)
	q := p.ask(get("k"))
	p.handle(1, 4, replyMsg(0, q, x))
	p.handle(1, 0, replyMsg(1, q, x))
	p.handle(1, 1, replyMsg(0, q, x))
	p.handle(1, 1, replyMsg(1, q, x))
	p.accepted(0, true)
	p.handle(1, 4, replyMsg(1, q, x))
	p.accepted(1, false)
	q = p.ask(get("k"))
	p.handle(1, 1, replyMsg(0, q, x))
	p.handle(1, 0, replyMsg(0, q, x))
	p.accepted(2, false)
}

// A reply of an epoch that isn't known yet is passed over, and counts when it comes again behind the chain.
func TestReplyOfALaterEpoch(t *testing.T) {
	r := fourToFour()
	x := result(api.CodeOK, 3)
	p := pairOf(t, 1, 0, 1, 2, 3)
	q := p.ask(get("k"))
	p.handle(1, 1, replyMsg(1, q, x))
	p.handle(1, 2, replyMsg(1, q, x))
	p.handle(1, 4, replyMsg(1, q, x))
	p.accepted(0, true)
	p.handle(2, 9, r.state())
	p.accepted(0, true)
	p.handle(3, 1, replyMsg(1, q, x))
	p.accepted(0, true)
	p.handle(3, 4, replyMsg(1, q, x))
	p.accepted(1, false)
}

// What came ahead of a longer chain counts on behind it.
func TestWhatCameStaysBehindAChain(t *testing.T) {
	x := result(api.CodeOK, 3)
	p := pairOf(t, 1, 0, 1, 2, 3)
	q := p.ask(get("k"))
	p.handle(1, 0, replyMsg(0, q, x))
	p.handle(1, 2, fourToFour().state())
	p.handle(1, 0, replyMsg(0, q, x))
	p.accepted(0, true)
	p.handle(1, 3, replyMsg(0, q, x))
	p.accepted(1, false)
}

// Replies to a request that is accepted, or that nobody asked yet, come to nothing: those that came ahead of the next request don't count for it either.
func TestNothingIsOpen(t *testing.T) {
	x := result(api.CodeOK, 3)
	p := pairOf(t, 1, 0, 1, 2, 3)
	for _, q := range []api.Request{request(1, 1, get("k")), request(1, 2, get("k")), {}} {
		for from := range 4 {
			p.handle(1, from, replyMsg(0, q, x))
		}
	}
	p.accepted(0, false)
	for n := 1; n <= 5; n++ {
		q := p.ask(get("k"))
		if q.Stamp != n {
			t.Error(q)
		}
		next := request(1, n+1, get("k"))
		for from := range 4 {
			p.handle(1, from, replyMsg(0, next, x))
		}
		p.accepted(n-1, true)
		p.handle(1, 3, replyMsg(0, q, x))
		p.accepted(n-1, true)
		p.handle(1, 1, replyMsg(0, q, x))
		p.accepted(n, false)
		for from := range 4 {
			p.handle(1, from, replyMsg(0, q, x))
			p.handle(1, from, replyMsg(0, next, x))
			p.handle(1, from, replyMsg(0, q, result(api.CodeSame, 0)))
		}
		p.accepted(n, false)
	}
}

// What came of a request counts for that one alone, though the next one be of the same operation.
func TestNothingCameOfTheNextOne(t *testing.T) {
	a, b := result(api.CodeOK, 1), result(api.CodeOK, 2)
	p := pairOf(t, 1, 0, 1, 2, 3)
	q := p.ask(get("k"))
	p.handle(1, 0, replyMsg(0, q, b))
	p.handle(1, 1, replyMsg(0, q, a))
	p.handle(1, 2, replyMsg(0, q, a))
	p.accepted(1, false)
	q = p.ask(get("k"))
	p.handle(1, 3, replyMsg(0, q, b))
	p.accepted(1, true)
	p.handle(1, 0, replyMsg(0, q, a)) // who sent something of the last one sends anew
	p.accepted(1, true)
	p.handle(1, 1, replyMsg(0, q, b))
	p.accepted(2, false)
	if got := p.c.Results(); got[0] != a || got[1] != b {
		t.Error(got)
	}
}

// What was accepted stands in its order, with the places as slots, each with its result.
func TestAcceptedInOrder(t *testing.T) {
	p := pairOf(t, 6, spread(7)...)
	ops := rightOps()
	for i, o := range ops {
		q := p.ask(o)
		for _, from := range []int{15, 0, 5} {
			p.handle(1, from, replyMsg(0, q, result(i%9, float64(i))))
		}
		p.accepted(i+1, false)
	}
	for i, entry := range p.c.Accepted() {
		want := api.Entry{Slot: i + 1, Req: byBits(request(6, i+1, ops[i]))}
		if entry.Slot != want.Slot || !isEqualReq(entry.Req, want.Req) {
			t.Error(i, entry)
		}
		if got := p.c.Results()[i]; got != result(i%9, float64(i)) {
			t.Error(i, got)
		}
	}
}

// Every row of four replies, of each member with each of two results, and of two epochs.
func TestEveryRowOfReplies(t *testing.T) {
	t.Parallel()
	base := knowing(t, 1, roadOf(0, 1, 2, 3).walk(0, 1, 2, 4))
	var choices []reply
	for _, from := range []int{0, 1, 3, 4} {
		for epoch := range 2 {
			for code := range 2 {
				choices = append(choices, reply{from: from, msg: replyMsg(epoch, request(1, 1, get("k")), result(code, 0))})
			}
		}
	}
	first, state := base.m.confs[0].Members, stateMsg(base.m.links...)
	n := len(choices)
	for row := range n * n * n * n {
		p := pairOf(t, 1, first...)
		p.handle(1, 0, state)
		p.ask(get("k"))
		for range 4 {
			p.handle(1, choices[row%n].from, choices[row%n].msg)
			row /= n
		}
	}
}

// A message whose bytes are too many doesn't fit, whatever stands in it.
func TestTooManyBytes(t *testing.T) {
	r := fourToFour()
	p := pairOf(t, 1, 0, 1, 2, 3)
	m := r.state()
	for _, n := range []int{maxBytes, 70000, 1 << 20} {
		m.Text = strings.Repeat("x", n)
		p.handle(1, 0, m)
		p.knows(0)
	}
	m.Text = strings.Repeat("x", 60000)
	p.handle(1, 0, m)
	p.knows(1)
}
