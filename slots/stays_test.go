package slots_test

import (
	"slices"
	"testing"
	"unsafe"

	"witan/api"
)

// P14.3: what is committed stays, and how much stands in a log.

// Whatever all members say in each later view: what was committed first stays.
func TestWhatIsCommittedStays(t *testing.T) {
	for at := range lastView + 1 {
		p := pairOf(t, 0, firstOf(4)...)
		first := put("k", float64(at))
		for view := range lastView + 1 {
			if view > 0 {
				p.enter(view, api.OK)
			}
			r := unlike()[7+view%8]
			if view == at {
				r = first
			}
			p.propose(3, r, api.OK)
			for id := range 4 {
				p.prepare(id, 3, r, api.OK)
			}
			if view < at {
				p.commit(0, 3, r, api.OK)
				p.commit(1, 3, r, api.OK)
				p.expectNothingCommitted(3)
				continue
			}
			for id := range 4 {
				p.commit(id, 3, r, api.OK)
			}
			p.expectCommitted(3, first)
			p.expectCert(3, view, r, 0, 1, 2)
		}
		p.expectNothingCommitted(2)
	}
}

// The null request is committed as any other one, and stays.
func TestTheNullRequestStays(t *testing.T) {
	p := pairOf(t, 0, firstOf(4)...)
	p.fill(1, null(), 0, 1, 2)
	p.expectCommitted(1, null())
	if got, ok := p.l.Proposed(1); !ok || !isNull(got) {
		t.Error(got, ok)
	}
	p.expectCert(1, 0, null(), 0, 1, 2)
	p.enter(1, api.OK)
	p.fill(1, get("k"), 0, 1, 2, 3)
	p.expectCommitted(1, null())
	p.expectCert(1, 1, get("k"), 0, 1, 2)
}

// What is committed in the view stays when the others commit another one behind it.
func TestWhatIsCommittedStaysInItsView(t *testing.T) {
	for n := least; n <= most; n++ {
		p := pairOf(t, 60, firstOf(n)...)
		p.fill(242, get("k"), firstOf(quorums()[n])...)
		p.expectCommitted(242, get("k"))
		for id := quorums()[n]; id < n; id++ {
			p.prepare(id, 242, get("l"), api.OK)
			p.commit(id, 242, get("l"), api.OK)
		}
		p.expectCommitted(242, get("k"))
		p.expectPrepared(242, true)
	}
}

// All that can stand in a log does: nothing more comes in, and behind Enter nothing of it stands.
func TestAsMuchAsCanStand(t *testing.T) {
	for _, c := range someConfs() {
		p := pairOf(t, c.Epoch, c.Members...)
		bound := 4 * (1 + 2*len(c.Members))
		for range 2 {
			for i, slot := range slotsOf(c.Epoch) {
				p.fill(slot, unlike()[i], c.Members...)
			}
			p.expectSize(bound)
			for _, slot := range append(slotsOf(c.Epoch), 4*c.Epoch, 4*c.Epoch+5) {
				for _, id := range append(strangers(c.Members)[:3], c.Members...) {
					expectFull(p, id, slot)
				}
			}
			p.stands()
			p.expectSize(bound)
			p.expectCerts(4)
			p.enter(p.l.View()+1, api.OK)
			p.expectSize(0)
			p.expectCerts(4)
		}
	}
}

// expectFull expects that nothing more is taken.
func expectFull(p *pair, id, slot int) {
	p.t.Helper()
	for _, r := range unlike()[:5] {
		w := word{from: id, slot: slot, req: r}
		for _, kind := range []int{proposes, prepares, commits} {
			w.kind = kind
			if p.tell(w, p.own(w)) == api.OK {
				p.t.Errorf("%v is taken", w)
			}
		}
	}
}

// Size counts each thing once: proposals, what is prepared and what is committed, whatever request it is of.
func TestSize(t *testing.T) {
	p := pairOf(t, 0, firstOf(4)...)
	want := 0
	for _, slot := range slotsOf(0) {
		p.propose(slot, get("k"), api.OK)
		want++
		p.expectSize(want)
		for id := range 4 {
			p.prepare(id, slot, unlike()[id], api.OK)
			p.expectSize(want + 1)
			p.commit(id, slot, unlike()[id+slot], api.OK)
			want += 2
			p.expectSize(want)
		}
	}
	p.expectSize(36)
}

// R3: a call that is refused leaves all as it was, and what comes behind it comes to the same.
func TestWhatIsRefusedLeavesNothing(t *testing.T) {
	r := get("k")
	row := []word{{proposes, 0, 6, r}, {prepares, 0, 6, r}, {commits, 2, 6, r}, {prepares, 1, 6, r}, {commits, 0, 6, r}, {prepares, 3, 6, r}, {commits, 3, 6, r}}
	for at := range len(row) + 1 {
		p := pairOf(t, 1, firstOf(4)...)
		for _, w := range row[:at] {
			p.expect(w, p.own(w), api.OK)
		}
		refusedAll(p, row[:at])
		for _, w := range row[at:] {
			p.expect(w, p.own(w), api.OK)
		}
		p.expectCert(6, 0, r, 0, 1, 3)
		p.expectCommitted(6, r)
	}
}

// refusedAll makes calls that are all refused: of each thing that is wrong one, and what was said already.
func refusedAll(p *pair, row []word) {
	p.t.Helper()
	for _, w := range row {
		p.expect(w, p.own(w), api.ErrSame)
		w.req = get("l")
		if w.kind == proposes {
			p.expect(w, api.Sig{}, api.ErrOther)
			continue
		}
		p.expect(w, p.own(w), api.ErrSame)
	}
	for id := range 4 {
		p.prepareWith(id, 6, get("k"), sign((id+1)%4, 1, 0, 6, get("k")), api.ErrSig)
		p.prepareWith(id, 6, get("k"), api.Sig{By: id}, api.ErrSig)
		p.prepareWith(id, 6, get("l"), sign(id, 1, 0, 6, get("k")), api.ErrSig)
	}
	for _, slot := range []int{4, 9} {
		callAll(p, 0, slot, get("k"), api.ErrSlot)
	}
	callAll(p, 0, 6, get(""), api.ErrArg)
	p.prepare(4, 6, get("k"), api.ErrAbsent)
	p.commit(4, 6, get("k"), api.ErrAbsent)
	for _, view := range []int{-1, 0, 16} {
		p.enter(view, api.ErrView)
	}
}

// R4: memory.

func TestMembersThatAreHandedInStayAndArentKept(t *testing.T) {
	members := make([]int, 5, 20)
	copy(members, []int{0, 3, 7, 9, 15})
	p := &pair{t: t, l: logOf(t, api.Conf{Epoch: 1, Members: members}), m: &model{conf: conf(1, 0, 3, 7, 9, 15)}}
	p.fill(5, get("k"), 0, 3, 7, 9)
	if !slices.Equal(members, []int{0, 3, 7, 9, 15}) || !slices.Equal(members[:8], []int{0, 3, 7, 9, 15, 0, 0, 0}) {
		t.Error("changed", members[:8])
	}
	copy(members, []int{1, 2, 4, 5, 6})
	p.commit(15, 5, get("k"), api.OK)
	p.commit(1, 5, get("k"), api.ErrAbsent)
	p.fill(6, get("k"), 15, 9, 7, 3)
	p.expectCommitted(6, get("k"))
	members[0], members[1], members[2], members[3] = -7, -7, -7, -7
	p.stands()
}

// spoil writes over all that the certificates' lists hold, and into the room behind them.
func spoil(certs []api.Cert) {
	for i, c := range certs {
		for k := range c.Sigs {
			c.Sigs[k] = api.Sig{By: -7, Text: "spoilt"}
		}
		_ = append(c.Sigs, api.Sig{By: -8})
		certs[i] = api.Cert{View: -7, Slot: -7, Req: get("spoilt")}
	}
	_ = append(certs, api.Cert{View: -8})
	_ = append(certs[:0], api.Cert{View: -9})
}

func TestCertificatesThatAreAnsweredArentKept(t *testing.T) {
	p := pairOf(t, 0, firstOf(4)...)
	for i, slot := range slotsOf(0) {
		p.fill(slot, unlike()[i], 0, 1, 2)
		spoil(p.l.Certs())
		p.stands()
	}
	one, two := p.l.Certs(), p.l.Certs()
	spoil(one)
	if !slices.EqualFunc(two, p.m.last(), isSameCert) {
		t.Error("two answers share memory")
	}
	for i := range two {
		_ = append(two[i].Sigs, api.Sig{By: -7})
		for k := range two[i].Sigs {
			two[i].Sigs[k] = api.Sig{}
		}
		if !slices.EqualFunc(two[i+1:], p.m.last()[i+1:], isSameCert) {
			t.Error("two certificates share memory")
		}
	}
	p.enter(1, api.OK)
	spoil(p.l.Certs())
	p.stands()
}

// borrowed answers a text in bytes that are overwritten when it is told to.
func borrowed(s string) (string, func()) {
	bytes := []byte(s)
	return unsafe.String(&bytes[0], len(bytes)), func() {
		for i := range bytes {
			bytes[i] = 'x'
		}
	}
}

// The bytes of keys and of signatures are the caller's: they may be overwritten behind the call.
func TestTextsThatAreHandedInArentKept(t *testing.T) {
	p := pairOf(t, 0, firstOf(4)...)
	clean := get("a key")
	p.fillBorrowed(2, clean)
	p.stands()
	p.expectCommitted(2, clean)
	p.expectCert(2, 0, clean, 0, 1, 2)
	p.propose(2, clean, api.ErrSame)
}

// fillBorrowed tells the log of a request whose texts are overwritten behind each call, and the model of the request as it was.
func (p *pair) fillBorrowed(slot int, clean api.Request) {
	p.t.Helper()
	lend := func(call func(r api.Request) api.Errno) {
		r := clean
		key, overwrite := borrowed(clean.Op.Key)
		r.Op.Key = key
		if e := call(r); e != api.OK {
			p.t.Fatal(e)
		}
		overwrite()
	}
	lend(func(r api.Request) api.Errno { return p.l.Propose(slot, r) })
	p.m.take(word{proposes, 0, slot, clean}, api.Sig{})
	for id := range 3 {
		s := sign(id, p.m.conf.Epoch, p.m.view, slot, clean)
		text, overwrite := borrowed(s.Text)
		lend(func(r api.Request) api.Errno { return p.l.Prepare(id, slot, r, api.Sig{By: id, Text: text}) })
		overwrite()
		p.m.take(word{prepares, id, slot, clean}, s)
		lend(func(r api.Request) api.Errno { return p.l.Commit(id, slot, r) })
		p.m.take(word{commits, id, slot, clean}, api.Sig{})
	}
}

// Two logs of one configuration are apart.
func TestLogsAreApart(t *testing.T) {
	c := conf(0, 0, 1, 2, 3)
	one := &pair{t: t, l: logOf(t, c), m: &model{conf: conf(0, 0, 1, 2, 3)}}
	two := &pair{t: t, l: logOf(t, c), m: &model{conf: conf(0, 0, 1, 2, 3)}}
	one.fill(1, get("k"), 0, 1, 2)
	two.stands()
	two.enter(2, api.OK)
	two.fill(1, get("l"), 1, 2, 3)
	one.stands()
	one.expectCommitted(1, get("k"))
	two.expectCommitted(1, get("l"))
}

// R6: asking changes nothing.
func TestAskedTwice(t *testing.T) {
	p := pairOf(t, 0, firstOf(4)...)
	p.fill(1, get("k"), 0, 1, 2)
	p.propose(2, get("k"), api.OK)
	for range 50 {
		p.stands()
	}
	p.expectSize(8)
	p.expectCerts(1)
}
