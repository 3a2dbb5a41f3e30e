package slots_test

import (
	"encoding/binary"
	"math"
	"slices"
	"testing"

	"witan/api"
	"witan/deeds"
	"witan/slots"
	"witan/terms"
)

const (
	interval  = 4
	least     = 4
	most      = 10
	ids       = 16
	lastEpoch = 60
	lastView  = 15
	lastStamp = 1048576

	oneNaN uint64 = 0x7FF8000000000000
)

var minusNought = math.Copysign(0, -1)

// quorums answers how many members must agree, by how many there are, written out.
func quorums() map[int]int {
	return map[int]int{4: 3, 5: 4, 6: 4, 7: 5, 8: 6, 9: 6, 10: 7}
}

// faults answers how many members may be bad, by how many there are, written out.
func faults() map[int]int {
	return map[int]int{4: 1, 5: 1, 6: 1, 7: 2, 8: 2, 9: 2, 10: 3}
}

// bitsOf answers the bits by which all know a real.
func bitsOf(x float64) uint64 {
	if x != x {
		return oneNaN
	}
	return math.Float64bits(x)
}

// canon answers the request with the real that has its bits.
func canon(r api.Request) api.Request {
	r.Op.Real = math.Float64frombits(bitsOf(r.Op.Real))
	return r
}

// isExact tells if both are alike to the last bit.
func isExact(a, b api.Request) bool {
	x, y := math.Float64bits(a.Op.Real), math.Float64bits(b.Op.Real)
	a.Op.Real, b.Op.Real = 0, 0
	return a == b && x == y
}

// isNull tells if it is the null request.
func isNull(r api.Request) bool { return isExact(r, api.Request{}) }

// mayStand tells if the request is right or null.
func mayStand(r api.Request) bool {
	if isNull(r) {
		return true
	}
	hasKey := len(r.Op.Key) > 0 && len(r.Op.Key) < 17 && r.Op.ID == 0
	hasReal := bitsOf(r.Op.Real) != 0
	isReplica := r.Op.Key == "" && r.Op.ID > -1 && r.Op.ID < ids
	isOp := map[int]bool{
		1: hasKey, 2: hasKey, 3: hasKey,
		4: hasKey && !hasReal, 5: hasKey && !hasReal,
		6: isReplica && !hasReal, 7: isReplica && !hasReal,
	}
	return isOp[r.Op.Kind] && r.Client > 0 && r.Client < 9 && r.Stamp > 0 && r.Stamp < lastStamp+1
}

// textOf answers the text of a request that may stand.
func textOf(r api.Request) string {
	if isNull(r) {
		return "\x00"
	}
	b := []byte{1, byte(r.Client)}
	b = binary.BigEndian.AppendUint32(b, uint32(r.Stamp))
	b = append(b, byte(r.Op.Kind), 0, byte(len(r.Op.Key)))
	b = append(b, r.Op.Key...)
	b = binary.BigEndian.AppendUint64(b, bitsOf(r.Op.Real))
	return string(append(b, byte(r.Op.ID)))
}

// sign answers by's signature of what is prepared.
func sign(by, epoch, view, slot int, r api.Request) api.Sig {
	b := []byte{80}
	for _, n := range []int{epoch, view, slot} {
		b = binary.BigEndian.AppendUint32(b, uint32(n))
	}
	return api.Sig{By: by, Text: string(b) + textOf(r)}
}

// The kinds of words.
const (
	proposes = iota
	prepares
	commits
)

// word is what is said of a slot: a proposal, which nobody says, or what somebody prepared or committed.
type word struct {
	kind, from, slot int
	req              api.Request
}

// model is a log by the chapter's words: all that its view was told stands in a list, and what follows from that is found by going through it.
type model struct {
	conf  api.Conf
	view  int
	words []word
	certs []api.Cert  // all that ever were, the last ones last
	done  []api.Entry // likewise
}

// find answers what stands of the kind by this one in the slot.
func (m *model) find(kind, from, slot int) (api.Request, bool) {
	for _, w := range m.words {
		if w.kind == kind && w.slot == slot && (kind == proposes || w.from == from) {
			return w.req, true
		}
	}
	return api.Request{}, false
}

// who answers the members of whom this stands, rising.
func (m *model) who(kind, slot int, text string) []int {
	var list []int
	for _, id := range m.conf.Members {
		if r, found := m.find(kind, id, slot); found && textOf(r) == text {
			list = append(list, id)
		}
	}
	return list
}

func (m *model) isMany(list []int) bool { return len(list) >= quorums()[len(m.conf.Members)] }

// slotsOf answers the epoch's slots.
func slotsOf(epoch int) []int {
	return []int{4*epoch + 1, 4*epoch + 2, 4*epoch + 3, 4*epoch + 4}
}

// refuses answers what is wrong with a word. The errors are asked from the last one on, so that the first one stands at the end.
func (m *model) refuses(w word, s api.Sig) api.Errno {
	e := api.OK
	if stands, found := m.find(w.kind, w.from, w.slot); found {
		e = api.ErrSame
		if w.kind == proposes && textOf(stands) != textOf(w.req) {
			e = api.ErrOther
		}
	}
	if w.kind == prepares && s != sign(w.from, m.conf.Epoch, m.view, w.slot, w.req) {
		e = api.ErrSig
	}
	if w.kind != proposes && !slices.Contains(m.conf.Members, w.from) {
		e = api.ErrAbsent
	}
	if !slices.Contains(slotsOf(m.conf.Epoch), w.slot) {
		e = api.ErrSlot
	}
	if !mayStand(w.req) {
		e = api.ErrArg
	}
	return e
}

func (m *model) take(w word, s api.Sig) api.Errno {
	e := m.refuses(w, s)
	if e == api.OK {
		w.req = canon(w.req)
		m.words = append(m.words, w)
		for _, slot := range slotsOf(m.conf.Epoch) {
			m.settle(slot)
		}
	}
	return e
}

func (m *model) enter(view int) api.Errno {
	if view <= m.view || view >= lastView+1 {
		return api.ErrView
	}
	m.view, m.words = view, nil
	return api.OK
}

// prepared answers who prepared the proposal, and if it is prepared.
func (m *model) prepared(slot int) ([]int, bool) {
	r, found := m.find(proposes, 0, slot)
	if !found {
		return nil, false
	}
	list := m.who(prepares, slot, textOf(r))
	return list, m.isMany(list)
}

// settle makes what follows from the slot's words stay.
func (m *model) settle(slot int) {
	signers, is := m.prepared(slot)
	if !is {
		return
	}
	r, _ := m.find(proposes, 0, slot)
	c := api.Cert{View: m.view, Slot: slot, Req: r}
	for _, id := range signers {
		c.Sigs = append(c.Sigs, sign(id, m.conf.Epoch, m.view, slot, r))
	}
	if !slices.ContainsFunc(m.certs, func(x api.Cert) bool { return x.Slot == slot && x.View == m.view }) {
		m.certs = append(m.certs, c)
	}
	if _, is := m.committed(slot); !is && m.isMany(m.who(commits, slot, textOf(r))) {
		m.done = append(m.done, api.Entry{Slot: slot, Req: r})
	}
}

func (m *model) committed(slot int) (api.Request, bool) {
	for _, x := range m.done {
		if x.Slot == slot {
			return x.Req, true
		}
	}
	return api.Request{}, false
}

// last answers the last certificate of each slot.
func (m *model) last() []api.Cert {
	var list []api.Cert
	for _, slot := range slotsOf(m.conf.Epoch) {
		for _, c := range slices.Backward(m.certs) {
			if c.Slot == slot {
				list = append(list, c)
				break
			}
		}
	}
	return list
}

func isSameCert(a, b api.Cert) bool {
	return a.View == b.View && a.Slot == b.Slot && isExact(a.Req, b.Req) && slices.Equal(a.Sigs, b.Sigs)
}

// farSlots answers slots that no epoch has, and some that most haven't.
func farSlots() []int {
	return []int{0, -1, -2, -3, -4, -5, -240, -244, 1, 4, 5, 8, 240, 241, 244, 245, 246, 65536, 1 << 31, 1<<32 + 1, -1 << 31, math.MinInt, math.MinInt + 1, math.MinInt + 4, math.MinInt + 5, math.MaxInt, math.MaxInt - 1, math.MaxInt - 3}
}

// pair is a log and its model, which are told the same.
type pair struct {
	t *testing.T
	l *slots.Log
	m *model
}

func logOf(t *testing.T, c api.Conf) *slots.Log {
	t.Helper()
	l, e := slots.New(c)
	if e != api.OK || l == nil {
		t.Fatalf("New(%v): %d", c, e)
	}
	return l
}

func pairOf(t *testing.T, epoch int, members ...int) *pair {
	t.Helper()
	c := conf(epoch, members...)
	p := &pair{t: t, l: logOf(t, c), m: &model{conf: conf(epoch, members...)}}
	p.stands()
	return p
}

// tell tells the log what the model is told, without asking how both stand behind it.
func (p *pair) tell(w word, s api.Sig) api.Errno {
	p.t.Helper()
	var got api.Errno
	switch w.kind {
	case proposes:
		got = p.l.Propose(w.slot, w.req)
	case prepares:
		got = p.l.Prepare(w.from, w.slot, w.req, s)
	case commits:
		got = p.l.Commit(w.from, w.slot, w.req)
	}
	if want := p.m.take(w, s); got != want {
		p.t.Fatalf("%+.40v of %.40v: %d, not %d", w, s, got, want)
	}
	return got
}

// own answers the signature that the word should have.
func (p *pair) own(w word) api.Sig {
	return sign(w.from, p.m.conf.Epoch, p.m.view, w.slot, w.req)
}

func (p *pair) propose(slot int, r api.Request, want api.Errno) {
	p.t.Helper()
	p.expect(word{kind: proposes, slot: slot, req: r}, api.Sig{}, want)
}

// prepare signs as the member should.
func (p *pair) prepare(from, slot int, r api.Request, want api.Errno) {
	p.t.Helper()
	w := word{kind: prepares, from: from, slot: slot, req: r}
	p.expect(w, p.own(w), want)
}

func (p *pair) prepareWith(from, slot int, r api.Request, s api.Sig, want api.Errno) {
	p.t.Helper()
	p.expect(word{kind: prepares, from: from, slot: slot, req: r}, s, want)
}

func (p *pair) commit(from, slot int, r api.Request, want api.Errno) {
	p.t.Helper()
	p.expect(word{kind: commits, from: from, slot: slot, req: r}, api.Sig{}, want)
}

// expect asks for an answer that is written out, beside the model's.
func (p *pair) expect(w word, s api.Sig, want api.Errno) {
	p.t.Helper()
	if got := p.tell(w, s); got != want {
		p.t.Errorf("%+.40v of %.40v: %d, not %d", w, s, got, want)
	}
	p.stands()
}

func (p *pair) enter(view int, want api.Errno) {
	p.t.Helper()
	got, model := p.l.Enter(view), p.m.enter(view)
	if got != want || got != model {
		p.t.Errorf("Enter(%d): %d, not %d, %d", view, got, want, model)
	}
	p.stands()
}

// stands asks that the log answers as its model, and keeps within its bound.
func (p *pair) stands() {
	p.t.Helper()
	if p.l.View() != p.m.view || p.l.Size() != len(p.m.words) {
		p.t.Fatalf("View, Size: %d, %d, not %d, %d", p.l.View(), p.l.Size(), p.m.view, len(p.m.words))
	}
	if p.l.Size() > interval*(1+2*len(p.m.conf.Members)) {
		p.t.Fatalf("%d stand there", p.l.Size())
	}
	if got, want := p.l.Certs(), p.m.last(); !slices.EqualFunc(got, want, isSameCert) {
		p.t.Fatalf("Certs: %v, not %v", got, want)
	}
	for _, slot := range append(slotsOf(p.m.conf.Epoch), farSlots()...) {
		p.standsAt(slot)
	}
	p.areProofs()
}

func (p *pair) standsAt(slot int) {
	p.t.Helper()
	got, ok := p.l.Proposed(slot)
	if want, is := p.m.find(proposes, 0, slot); ok != is || !isExact(got, want) {
		p.t.Fatalf("Proposed(%d): %v %v, not %v %v", slot, got, ok, want, is)
	}
	if _, want := p.m.prepared(slot); p.l.Prepared(slot) != want {
		p.t.Fatalf("Prepared(%d): not %v", slot, want)
	}
	got, ok = p.l.Committed(slot)
	if want, is := p.m.committed(slot); ok != is || !isExact(got, want) {
		p.t.Fatalf("Committed(%d): %v %v, not %v %v", slot, got, ok, want, is)
	}
}

// areProofs asks layer 9 of each certificate: P14.2's first sentence, by the words of the other layers.
func (p *pair) areProofs() {
	p.t.Helper()
	for _, c := range p.l.Certs() {
		text, e := deeds.Prepared(p.m.conf.Epoch, c.View, c.Slot, c.Req)
		if e != api.OK || !terms.Proves(p.m.conf, text, c.Sigs) {
			p.t.Fatalf("no proof: %v", c)
		}
	}
}

// fill tells all of a slot: it is proposed, and by these it is prepared and committed.
func (p *pair) fill(slot int, r api.Request, members ...int) {
	p.t.Helper()
	p.propose(slot, r, api.OK)
	for _, id := range members {
		p.prepare(id, slot, r, api.OK)
		p.commit(id, slot, r, api.OK)
	}
}

// expectSize asks for a size that is written out.
func (p *pair) expectSize(want int) {
	p.t.Helper()
	if got := p.l.Size(); got != want {
		p.t.Errorf("Size: %d, not %d", got, want)
	}
}

func (p *pair) expectPrepared(slot int, want bool) {
	p.t.Helper()
	if p.l.Prepared(slot) != want {
		p.t.Errorf("Prepared(%d): not %v", slot, want)
	}
}

func (p *pair) expectCommitted(slot int, want api.Request) {
	p.t.Helper()
	if got, ok := p.l.Committed(slot); !ok || !isExact(got, want) {
		p.t.Errorf("Committed(%d): %v %v, not %v", slot, got, ok, want)
	}
}

func (p *pair) expectNothingCommitted(slot int) {
	p.t.Helper()
	if got, ok := p.l.Committed(slot); ok || !isNull(got) {
		p.t.Errorf("Committed(%d): %v %v", slot, got, ok)
	}
}

// expectCert asks for a slot's certificate: its view, its request, and who signed.
func (p *pair) expectCert(slot, view int, r api.Request, signers ...int) {
	p.t.Helper()
	want := api.Cert{View: view, Slot: slot, Req: r}
	for _, id := range signers {
		want.Sigs = append(want.Sigs, sign(id, p.m.conf.Epoch, view, slot, r))
	}
	for _, c := range p.l.Certs() {
		if c.Slot == slot {
			if !isSameCert(c, want) {
				p.t.Errorf("the certificate is %v, not %v", c, want)
			}
			return
		}
	}
	p.t.Errorf("no certificate of the slot %d", slot)
}

func (p *pair) expectCerts(want int) {
	p.t.Helper()
	if got := p.l.Certs(); len(got) != want {
		p.t.Errorf("%d certificates, not %d", len(got), want)
	}
}
