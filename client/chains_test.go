package client_test

import (
	"math"
	"slices"
	"testing"

	"witan/api"
)

// Chains: what is learned of later epochs, and what isn't.

// A chain that is good and longer is taken from whomever, also one of several links at once, up to the last epoch.
func TestLongerChains(t *testing.T) {
	for _, from := range []int{0, 3, 9, 15, 16, 77, 101, 102, 199, 200, -1, math.MinInt, math.MaxInt} {
		r := roadOf(0, 1, 2, 3)
		p := pairOf(t, 1, 0, 1, 2, 3)
		for epoch := 1; epoch < 10; epoch += 2 {
			r.walk(append([]int{0, 1, 2, 3}, 3+epoch)...).walk(0, 1, 2, 3)
			p.handle(1, from, r.state())
			p.knows(epoch + 1)
		}
	}
	r := roadOf(spread(10)...)
	p := pairOf(t, 1, spread(10)...)
	for epoch := 1; epoch <= lastEpoch; epoch++ {
		members := spread(4 + epoch%7)
		r.walk(members...)
		p.handle(1, 0, r.state())
		p.knows(epoch)
		p.expect(p.tick(4), p.to(members, fetchMsg(epoch))...)
	}
	q := p.ask(get("k"))
	for _, from := range r.last().Members[:weakOf(len(r.last().Members))] {
		p.handle(1, from, replyMsg(lastEpoch, q, api.Result{}))
	}
	p.accepted(1, false)
	p = pairOf(t, 1, spread(10)...)
	p.handle(1, 0, r.state())
	p.knows(lastEpoch)
}

// One that is as long as what is known, or shorter, changes nothing, whoever signed it.
func TestShorterChains(t *testing.T) {
	r := roadOf(0, 1, 2, 3).walk(0, 1, 2, 3, 4).walk(1, 2, 3, 4).walk(1, 2, 3, 9)
	p := knowing(t, 1, r)
	for n := 1; n <= 3; n++ {
		p.handle(1, 0, stateMsg(r.links[:n]...))
		p.knows(3)
	}
	by := roadOf(0, 1, 2, 3).walkBy(firstOf(4), 0, 1, 2, 3, 4).walkBy(firstOf(5), 1, 2, 3, 4).walkBy([]int{1, 2, 3, 4}, 1, 2, 3, 9)
	p.handle(1, 0, by.state())
	p.knows(3)
	if got := p.c.Chain(); !slices.EqualFunc(got, r.links, isEqualLink) {
		t.Error(tellLinks(got))
	}
	// With one link more the other signatures come with it.
	p.handle(1, 0, by.walk(1, 2, 3, 9, 10).state())
	p.knows(4)
	if got := p.c.Chain(); !slices.EqualFunc(got, by.links, isEqualLink) {
		t.Error(tellLinks(got))
	}
}

// A chain with other members in an epoch that is known is refused, however long it is and though it be signed well.
func TestForkedChains(t *testing.T) {
	for epoch := 1; epoch <= 3; epoch++ {
		r := roadOf(0, 1, 2, 3).stay(3)
		p := knowing(t, 1, r)
		other := roadOf(0, 1, 2, 3).stay(epoch-1).walk(0, 1, 2, 3, 4).stay(5)
		p.handle(1, 0, other.state())
		p.knows(3)
		p.handle(1, 0, r.stay(1).state())
		p.knows(4)
	}
}

// brokenLinks answers links behind the council 0, 1, 2 and 3 of the epoch before, which too few signed, or wrongly.
func brokenLinks(epoch int) map[string]api.Link {
	c := conf(epoch, 1, 2, 3, 4)
	text := confText(c)
	with := func(sigs ...api.Sig) api.Link { return api.Link{Conf: c, Sigs: sigs} }
	other := confText(conf(epoch, 0, 1, 2, 3))
	return map[string]api.Link{
		"nobody signed":        with(),
		"one signed":           linkOf(c, 2),
		"two signed":           linkOf(c, 0, 1),
		"one signed thrice":    linkOf(c, 1, 1, 1),
		"two signed, one more": linkOf(c, 0, 1, 1),
		"falling":              linkOf(c, 2, 1, 0),
		"not rising":           linkOf(c, 0, 2, 1),
		"a stranger":           linkOf(c, 0, 1, 4),
		"a stranger more":      linkOf(c, 0, 1, 2, 4),
		"a stranger less":      linkOf(conf(epoch, 1, 2, 3, 4), 0, 1, 15),
		"a client's":           linkOf(c, 0, 1, 101),
		"the next ones":        linkOf(c, 1, 2, 4),
		"another text":         with(signatures(other, 0, 1, 2)...),
		"one of another text":  with(api.Sig{By: 0, Text: text}, api.Sig{By: 1, Text: other}, api.Sig{By: 2, Text: text}),
		"one of no text":       with(api.Sig{By: 0, Text: text}, api.Sig{By: 1, Text: text}, api.Sig{By: 2}),
		"one more, of another": with(append(signatures(text, 0, 1, 2), api.Sig{By: 3, Text: other})...),
		"another epoch's":      with(signatures(confText(conf(epoch+1, 1, 2, 3, 4)), 0, 1, 2)...),
	}
}

// A chain of which one link is broken is refused wholly, wherever that stands, also the good links ahead of it.
func TestBrokenChains(t *testing.T) {
	for at := 1; at <= 3; at++ {
		for name, broken := range brokenLinks(at) {
			r := roadOf(0, 1, 2, 3).stay(at - 1)
			p := pairOf(t, 1, 0, 1, 2, 3)
			good := r.fork().walk(1, 2, 3, 4).walk(1, 2, 3, 4).walk(1, 2, 3, 4)
			links := cloneLinks(good.links)
			links[at-1] = broken
			for n := at; n <= len(links); n++ {
				p.handle(1, 0, stateMsg(links[:n]...))
				if p.knows(0); t.Failed() {
					t.Fatal(name, at)
				}
			}
			p.handle(1, 0, good.state())
			p.knows(len(good.links))
			p.handle(1, 0, stateMsg(append(links, linkOf(conf(len(links)+1, 1, 2, 3, 4), 1, 2, 3))...))
			p.knows(len(good.links))
		}
	}
}

// Of each number of members one signature too few, and just enough.
func TestSignaturesOfALink(t *testing.T) {
	for n := 4; n <= 10; n++ {
		members := spread(n)
		p := pairOf(t, 1, members...)
		p.handle(1, 0, roadOf(members...).walkBy(members[:quorumOf(n)-1], 0, 1, 2, 3).state())
		p.knows(0)
		p.handle(1, 0, roadOf(members...).walkBy(members[n-quorumOf(n):], 0, 1, 2, 3).state())
		p.knows(1)
	}
}

// Every set of signers of four members: those are enough that are three or four.
func TestEverySetOfSigners(t *testing.T) {
	for set := range 32 {
		var by []int
		for id := range 5 {
			if set>>id&1 == 1 {
				by = append(by, id)
			}
		}
		p := pairOf(t, 1, 0, 1, 2, 3)
		p.handle(1, 2, roadOf(0, 1, 2, 3).walkBy(by, 1, 2, 3, 4).state())
		want := 0
		if len(by) >= 3 && set < 16 {
			want = 1
		}
		p.knows(want)
	}
}

// A state that doesn't fit is nothing, good as its links be.
func TestStatesThatDontFit(t *testing.T) {
	sig := api.Sig{By: 1, Text: "x"}
	for name, change := range map[string]func(*api.Msg){
		"no kind":            func(m *api.Msg) { m.Kind = 0 },
		"another kind":       func(m *api.Msg) { m.Kind = 11 },
		"the epoch before":   func(m *api.Msg) { m.Epoch, m.Slot = 1, 4 },
		"the epoch behind":   func(m *api.Msg) { m.Epoch, m.Slot = 3, 12 },
		"the epoch 0":        func(m *api.Msg) { m.Epoch, m.Slot = 0, 0 },
		"a far epoch":        func(m *api.Msg) { m.Epoch = math.MaxInt },
		"a view":             func(m *api.Msg) { m.View = 1 },
		"no slot":            func(m *api.Msg) { m.Slot = 0 },
		"the slot before":    func(m *api.Msg) { m.Slot = 7 },
		"the slot behind":    func(m *api.Msg) { m.Slot = 9 },
		"a request":          func(m *api.Msg) { m.Req = request(1, 1, get("k")) },
		"a wrong request":    func(m *api.Msg) { m.Req.Client = 1 },
		"a code":             func(m *api.Msg) { m.Result.Code = 1 },
		"a real":             func(m *api.Msg) { m.Result.Real = 1 },
		"minus nought":       func(m *api.Msg) { m.Result.Real = minusNought },
		"no text":            func(m *api.Msg) { m.Text = "" },
		"next members":       func(m *api.Msg) { m.Next = firstOf(4) },
		"a change":           func(m *api.Msg) { m.Changes = []api.Change{{From: 1, View: 1, Sig: sig}} },
		"no links":           func(m *api.Msg) { m.Links = nil },
		"a link less":        func(m *api.Msg) { m.Links = m.Links[:1] },
		"seventeen":          func(m *api.Msg) { m.Sigs = make([]api.Sig, 17) },
		"a signature by 200": func(m *api.Msg) { m.Sigs = []api.Sig{{By: 200}} },
		"one by -1":          func(m *api.Msg) { m.Sigs = []api.Sig{{By: -1}} },
		"a link's by 200":    func(m *api.Msg) { m.Links[1].Sigs[0].By = 200 },
		"a link's epoch":     func(m *api.Msg) { m.Links[1].Conf.Epoch = 3 },
		"three members":      func(m *api.Msg) { m.Links[1] = api.Link{Conf: conf(2, 1, 2, 3)} },
		"falling members":    func(m *api.Msg) { slices.Reverse(m.Links[1].Conf.Members) },
		"turned about":       func(m *api.Msg) { m.Links[0], m.Links[1] = m.Links[1], m.Links[0] },
		"one of the links":   func(m *api.Msg) { m.Epoch, m.Slot, m.Links = 1, 4, m.Links[1:] },
	} {
		r := roadOf(0, 1, 2, 3).walk(0, 1, 2, 3, 4).walk(1, 2, 3, 4)
		p := pairOf(t, 1, 0, 1, 2, 3)
		m := r.state()
		change(&m)
		p.handle(1, 0, m)
		if p.knows(0); t.Failed() {
			t.Fatal(name)
		}
		p.handle(1, 0, r.state())
		p.knows(2)
	}
}

// The text of a state and its signatures may be any: a client believes the chain alone.
func TestStatesOfAnyText(t *testing.T) {
	for _, text := range []string{"x", "L", "\x00", "no ledger's bytes"} {
		for _, sigs := range [][]api.Sig{nil, signatures("x", 0), signatures("wrong", 199, 199, 0), make([]api.Sig, 16)} {
			m := fourToFour().state()
			m.Text, m.Sigs = text, sigs
			p := pairOf(t, 1, 0, 1, 2, 3)
			p.handle(1, 77, m)
			p.knows(1)
		}
	}
}

// A chain changes nothing of what is open, asked or accepted.
func TestChainBesideAnOpenRequest(t *testing.T) {
	p := pairOf(t, 5, 0, 1, 2, 3)
	q := p.ask(put("k", 2))
	p.handle(1, 0, replyMsg(0, q, result(0, 2)))
	p.handle(1, 3, replyMsg(0, q, result(0, 2)))
	q = p.ask(put("m", 2))
	p.handle(1, 9, fourToFour().state())
	p.accepted(1, true)
	p.expect(p.tick(0), p.to([]int{1, 2, 3, 4}, askMsg(q), fetchMsg(1))...)
	if e := p.tryAsk(get("k")); e != api.ErrState {
		t.Error(e)
	}
}
