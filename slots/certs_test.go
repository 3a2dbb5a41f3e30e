package slots_test

import (
	"math/rand"
	"slices"
	"testing"

	"witan/api"
	"witan/slots"
)

// P14.1, P14.2: when something is prepared and when it is committed, and what its certificate is.

// backward answers the list the other way round.
func backward(list []int) []int {
	other := slices.Clone(list)
	slices.Reverse(other)
	return other
}

// Of each number of members each set of them prepares the proposal, and the others another one. With the proposal last, all who prepared it sign its certificate.
func TestEachSetThatPreparesAheadOfTheProposal(t *testing.T) {
	r, other := get("k"), get("l")
	for n := least; n <= most; n++ {
		members := spread(n)
		for set := range 1 << n {
			in, out := chosen(members, set)
			p := &pair{t: t, l: logOf(t, conf(0, members...)), m: &model{conf: conf(0, members...)}}
			for _, id := range backward(in) {
				p.tell(word{prepares, id, 3, r}, sign(id, 0, 0, 3, r))
			}
			for _, id := range out {
				p.tell(word{prepares, id, 3, other}, sign(id, 0, 0, 3, other))
			}
			p.expectPrepared(3, false)
			p.propose(3, r, api.OK)
			p.expectPrepared(3, len(in) >= quorums()[n])
			if len(in) < quorums()[n] {
				p.expectCerts(0)
				continue
			}
			p.expectCert(3, 0, r, in...)
		}
	}
}

// With the proposal first the first quorum of them signs it, and whoever comes behind doesn't.
func TestEachSetThatPreparesBehindTheProposal(t *testing.T) {
	r, other := put("k", 1), null()
	for n := least; n <= most; n++ {
		quorum := quorums()[n]
		members := lastOf(n)
		for set := range 1 << n {
			in, out := chosen(members, set)
			p := &pair{t: t, l: logOf(t, conf(60, members...)), m: &model{conf: conf(60, members...)}}
			p.tell(word{proposes, 0, 244, r}, api.Sig{})
			for i, id := range backward(in) {
				p.expectPrepared(244, i >= quorum)
				p.tell(word{prepares, id, 244, r}, sign(id, 60, 0, 244, r))
			}
			for _, id := range out {
				p.tell(word{prepares, id, 244, other}, sign(id, 60, 0, 244, other))
			}
			p.stands()
			p.expectPrepared(244, len(in) >= quorum)
			if len(in) >= quorum {
				p.expectCert(244, 0, r, in[len(in)-quorum:]...)
			}
		}
	}
}

// Of what is prepared each set commits it, and the others another one.
func TestEachSetThatCommits(t *testing.T) {
	r, other := join(4), join(5)
	for n := least; n <= most; n++ {
		members := firstOf(n)
		for set := range 1 << n {
			in, out := chosen(members, set)
			p := &pair{t: t, l: logOf(t, conf(7, members...)), m: &model{conf: conf(7, members...)}}
			p.tell(word{proposes, 0, 29, r}, api.Sig{})
			for _, id := range members {
				p.tell(word{prepares, id, 29, r}, sign(id, 7, 0, 29, r))
			}
			for _, id := range out {
				p.tell(word{commits, id, 29, other}, api.Sig{})
			}
			p.expectNothingCommitted(29)
			for i, id := range in {
				if i < quorums()[n] {
					p.expectNothingCommitted(29)
				}
				p.tell(word{commits, id, 29, r}, api.Sig{})
			}
			if len(in) >= quorums()[n] {
				p.expectCommitted(29, r)
			} else {
				p.expectNothingCommitted(29)
			}
			p.stands()
		}
	}
}

// In each order of seven words, with none or one of them for another request: what comes of them all doesn't hang on the order, and nothing is committed ahead of the last one.
func TestEachOrder(t *testing.T) {
	r, other := get("k"), null()
	good := []word{{proposes, 0, 2, r}, {prepares, 0, 2, r}, {prepares, 1, 2, r}, {prepares, 3, 2, r}, {commits, 1, 2, r}, {commits, 2, 2, r}, {commits, 3, 2, r}}
	for changed := range len(good) + 1 {
		words := slices.Clone(good)
		isWhole := changed == len(good)
		if !isWhole {
			words[changed].req = other
		}
		isPrepared := changed > 3
		for order := range orders(len(words)) {
			p := &pair{t: t, l: logOf(t, conf(0, 0, 1, 2, 3)), m: &model{conf: conf(0, 0, 1, 2, 3)}}
			for i, k := range order {
				p.tell(words[k], p.own(words[k]))
				if _, ok := p.l.Committed(2); ok != (isWhole && i == len(words)-1) {
					t.Fatal(order, i, ok)
				}
			}
			if p.l.Prepared(2) != isPrepared || len(p.l.Certs()) != len(p.m.last()) || isPrepared != (len(p.m.last()) == 1) {
				t.Fatal(order, p.l.Prepared(2), p.l.Certs())
			}
			if order[0]%3 == 0 {
				p.stands()
			}
		}
	}
}

// Commits alone come to nothing, however many, and even with a proposal; with what is prepared for another request likewise.
func TestCommitsForWhatNobodyPrepared(t *testing.T) {
	r, other := get("k"), get("l")
	p := pairOf(t, 0, firstOf(7)...)
	for id := range 7 {
		p.commit(id, 1, r, api.OK)
		p.commit(id, 2, r, api.OK)
	}
	p.propose(1, r, api.OK)
	p.propose(2, other, api.OK)
	for id := range 7 {
		p.prepare(id, 2, other, api.OK)
	}
	p.expectPrepared(2, true)
	p.expectCert(2, 0, other, 0, 1, 2, 3, 4)
	p.expectNothingCommitted(1)
	p.expectNothingCommitted(2)
	for id := range 5 {
		p.expectNothingCommitted(1)
		p.prepare(id, 1, r, api.OK)
	}
	p.expectCommitted(1, r) // all of it was there but what is prepared
	p.expectNothingCommitted(2)
}

// What is prepared ahead of a proposal for another request isn't prepared, however many did.
func TestPreparedForAnotherThanTheProposal(t *testing.T) {
	p := pairOf(t, 0, firstOf(4)...)
	for id := range 4 {
		p.prepare(id, 4, get("k"), api.OK)
		p.commit(id, 4, get("k"), api.OK)
	}
	p.expectPrepared(4, false)
	p.propose(4, get("l"), api.OK)
	p.expectPrepared(4, false)
	p.expectCerts(0)
	p.expectNothingCommitted(4)
	p.propose(4, get("k"), api.ErrOther)
	p.expectPrepared(4, false)
	p.expectSize(9)
}

// What a view is told is lost with it: a part of a quorum from each of two views is none.
func TestPartsOfAQuorumFromTwoViews(t *testing.T) {
	r := get("k")
	p := pairOf(t, 0, firstOf(4)...)
	p.propose(1, r, api.OK)
	p.prepare(0, 1, r, api.OK)
	p.prepare(1, 1, r, api.OK)
	p.enter(1, api.OK)
	p.prepare(2, 1, r, api.OK)
	p.propose(1, r, api.OK)
	p.prepare(3, 1, r, api.OK)
	p.expectPrepared(1, false)
	p.prepare(0, 1, r, api.OK)
	p.expectPrepared(1, true)
	p.commit(0, 1, r, api.OK)
	p.commit(1, 1, r, api.OK)
	p.enter(2, api.OK)
	p.commit(2, 1, r, api.OK)
	p.commit(3, 1, r, api.OK)
	p.propose(1, r, api.OK)
	for id := range 4 {
		p.prepare(id, 1, r, api.OK)
	}
	p.expectNothingCommitted(1)
	p.commit(0, 1, r, api.OK)
	p.expectCommitted(1, r)
}

// A certificate is of its own slot alone, and all are told by slots, whatever came first and whatever view they are of.
func TestCertificatesBySlots(t *testing.T) {
	for order := range orders(4) {
		p := pairOf(t, 9, lastOf(5)...)
		for i, k := range order {
			p.fill(37+k, put("k", float64(k)), 11, 12, 13, 14)
			p.expectCert(37+k, 0, put("k", float64(k)), 11, 12, 13, 14)
			p.expectCerts(i + 1)
		}
		for i, k := range order[1:3] {
			p.enter(3+i, api.OK)
			p.fill(37+k, null(), 15, 14, 13, 11)
			p.expectCert(37+k, 3+i, null(), 11, 13, 14, 15)
			p.expectCommitted(37+k, put("k", float64(k)))
		}
		for i, c := range p.l.Certs() {
			if c.Slot != 37+i {
				t.Error("not by slots", order, p.l.Certs())
			}
		}
		p.expectCerts(4)
	}
}

// A certificate stays as it is for the rest of its view and in all later ones, until another view has one of its slot.
func TestACertificateStaysUntilALaterOne(t *testing.T) {
	r, other := get("k"), get("l")
	p := pairOf(t, 0, firstOf(5)...)
	p.propose(2, r, api.OK)
	for _, id := range []int{4, 0, 2, 3} {
		p.prepare(id, 2, r, api.OK)
	}
	p.expectCert(2, 0, r, 0, 2, 3, 4)
	p.prepare(1, 2, r, api.OK) // too late for it
	p.expectCert(2, 0, r, 0, 2, 3, 4)
	p.enter(4, api.OK)
	p.propose(2, other, api.OK)
	for _, id := range []int{0, 1, 2} {
		p.prepare(id, 2, other, api.OK)
		p.expectCert(2, 0, r, 0, 2, 3, 4)
	}
	p.prepare(3, 2, r, api.OK)
	p.expectCert(2, 0, r, 0, 2, 3, 4)
	p.enter(5, api.OK)
	p.expectCert(2, 0, r, 0, 2, 3, 4)
	for _, id := range []int{3, 1, 2, 4} {
		p.prepare(id, 2, other, api.OK)
		p.expectCert(2, 0, r, 0, 2, 3, 4)
	}
	p.propose(2, other, api.OK)
	p.expectCert(2, 5, other, 1, 2, 3, 4)
	p.enter(15, api.OK)
	p.fill(2, other, 0, 1, 2, 3, 4)
	p.expectCert(2, 15, other, 0, 1, 2, 3)
	p.expectCerts(1)
}

// P14.2: two certificates of a view and a slot.

// heard tells a log the proposal, and what these prepared, in an order by chance, and answers its certificate.
func heard(t *testing.T, c api.Conf, r api.Request, by []int, order *rand.Rand) []api.Cert {
	t.Helper()
	l := logOf(t, c)
	slot := 4*c.Epoch + 1
	at := order.Intn(len(by) + 1)
	for i, k := range order.Perm(len(by)) {
		if i == at {
			l.Propose(slot, r)
		}
		if e := l.Prepare(by[k], slot, r, sign(by[k], c.Epoch, 0, slot, r)); e != api.OK {
			t.Fatal(e)
		}
	}
	l.Propose(slot, r)
	return l.Certs()
}

// Of two logs of one view that have unlike proposals not both have a certificate, however the honest members are split, if no more than the faults prepared both. With one more it could be.
func TestNoTwoCertificatesOfUnlikeRequests(t *testing.T) {
	order := rand.New(rand.NewSource(1))
	for _, c := range someConfs() {
		n := len(c.Members)
		for doubles := range faults()[n] + 1 {
			for split := range n - doubles + 1 {
				one := heard(t, c, get("k"), c.Members[:doubles+split], order)
				two := heard(t, c, get("l"), append(slices.Clone(c.Members[:doubles]), c.Members[doubles+split:]...), order)
				if len(one) > 0 && len(two) > 0 {
					t.Errorf("%v: %v and %v", c, one, two)
				}
				if split == n-doubles && len(one) != 1 {
					t.Errorf("%v: no certificate of all", c)
				}
			}
		}
	}
	one, two := heard(t, conf(0, 0, 1, 2, 3), get("k"), []int{0, 1, 2}, order), heard(t, conf(0, 0, 1, 2, 3), get("l"), []int{0, 1, 3}, order)
	if len(one) != 1 || len(two) != 1 {
		t.Error("with two bad ones of four both have one", one, two)
	}
}

// said is where and when something was prepared.
type said struct{ view, slot, by int }

// honestly answers what an honest member prepares there: one thing alone.
func honestly(r *rand.Rand, what map[said]api.Request, at said) api.Request {
	if _, known := what[at]; !known {
		what[at] = unlike()[r.Intn(3)]
	}
	return what[at]
}

// Many logs of one configuration hear parts of what members prepare, in any order, while bad ones prepare whatever they like: of a view and a slot there are only certificates of one request.
func TestManyLogsOfOneConfiguration(t *testing.T) {
	met := 0
	for seed := range int64(60) {
		r := rand.New(rand.NewSource(seed))
		n := least + int(seed)%7
		c := conf(int(seed), spread(n)...)
		what := map[said]api.Request{}
		found := map[said]api.Request{}
		for range 30 {
			l := logOf(t, c)
			for view := range 3 {
				l.Enter(view)
				tellByChance(r, l, c, view, what)
				for _, x := range l.Certs() {
					at := said{view: x.View, slot: x.Slot}
					if before, known := found[at]; known && !isExact(before, x.Req) {
						t.Fatalf("seed %d: %v and %v", seed, before, x.Req)
					}
					found[at] = x.Req
					met++
				}
			}
		}
	}
	if met < 1000 {
		t.Error("too few certificates:", met)
	}
}

// tellByChance tells the log proposals, and most of what the members prepared in the view. The first members are bad, as many as may be.
func tellByChance(r *rand.Rand, l *slots.Log, c api.Conf, view int, what map[said]api.Request) {
	for _, slot := range slotsOf(c.Epoch) {
		proposal := unlike()[r.Intn(3)]
		if r.Intn(4) > 0 { // most logs hear what the last member prepared
			proposal = honestly(r, what, said{view, slot, c.Members[len(c.Members)-1]})
		}
		for _, k := range r.Perm(len(c.Members)) {
			id := c.Members[k]
			q := proposal
			if k >= faults()[len(c.Members)] {
				at := said{view, slot, id}
				if _, known := what[at]; !known && r.Intn(4) > 0 {
					what[at] = honestly(r, what, said{view, slot, c.Members[len(c.Members)-1]})
				}
				q = honestly(r, what, at)
			}
			if r.Intn(10) > 0 {
				l.Prepare(id, slot, q, sign(id, c.Epoch, view, slot, q))
			}
			if r.Intn(3) == 0 {
				l.Propose(slot, proposal)
			}
		}
		l.Propose(slot, proposal)
	}
}
