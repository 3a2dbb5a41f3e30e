package slots_test

import (
	"math"
	"testing"

	"witan/api"
	"witan/slots"
)

// P14.1: what each call answers.

// The chapter's examples.
func TestExamples(t *testing.T) {
	p := pairOf(t, 0, 0, 1, 2, 3)
	r := get("k")
	p.propose(1, r, api.OK)
	for i, id := range []int{2, 0, 3} {
		p.expectPrepared(1, false)
		p.expectSize(1 + i)
		p.prepare(id, 1, r, api.OK)
	}
	p.expectPrepared(1, true)
	for _, id := range []int{1, 2, 3} {
		p.expectNothingCommitted(1)
		p.commit(id, 1, r, api.OK)
	}
	p.expectCommitted(1, r)
	p.expectSize(7)
	p.enter(1, api.OK)
	if got, ok := p.l.Proposed(1); ok || !isNull(got) {
		t.Error(got, ok)
	}
	p.expectPrepared(1, false)
	p.expectCert(1, 0, r, 0, 2, 3)
	p.expectCommitted(1, r)
	p.expectSize(0)
}

// What is signed, byte by byte.
func TestACertificateWrittenOut(t *testing.T) {
	l := logOf(t, conf(1, 0, 3, 7, 15))
	text := "P\x00\x00\x00\x01\x00\x00\x00\x02\x00\x00\x00\x06\x01\x02\x00\x00\x00\x03\x05\x00\x01k\x00\x00\x00\x00\x00\x00\x00\x00\x00"
	l.Enter(2)
	l.Propose(6, get("k"))
	for _, id := range []int{15, 3, 7} {
		if e := l.Prepare(id, 6, get("k"), api.Sig{By: id, Text: text}); e != api.OK {
			t.Fatal(id, e)
		}
	}
	want := api.Cert{View: 2, Slot: 6, Req: get("k"), Sigs: []api.Sig{{By: 3, Text: text}, {By: 7, Text: text}, {By: 15, Text: text}}}
	if got := l.Certs(); len(got) != 1 || !isSameCert(got[0], want) {
		t.Errorf("%v, not %v", got, want)
	}
}

func TestNewOfRightConfigurations(t *testing.T) {
	for _, c := range someConfs() {
		p := pairOf(t, c.Epoch, c.Members...)
		p.expectSize(0)
		p.expectCerts(0)
		if p.l.View() != 0 {
			t.Error(p.l.View())
		}
	}
}

func TestNewOfWrongConfigurations(t *testing.T) {
	for name, c := range wrongConfs() {
		if l, e := slots.New(c); l != nil || e != api.ErrArg {
			t.Errorf("%s: %v %d", name, l != nil, e)
		}
	}
}

func TestEnter(t *testing.T) {
	for from := range lastView + 1 {
		for _, to := range []int{math.MinInt, -lastView - 1, -1, 0, 1, from - 1, from, from + 1, from + 2, 7, 14, 15, 16, 17, 255, 256, 1 << 32, math.MaxInt} {
			p := pairOf(t, 2, 4, 5, 6, 7)
			if from > 0 {
				p.enter(from, api.OK)
			}
			want := api.ErrView
			if to > from && to <= 15 {
				want = api.OK
			}
			p.enter(to, want)
			p.enter(lastView+1, api.ErrView)
		}
	}
}

// View by view up to the last one, and no further.
func TestEachView(t *testing.T) {
	p := pairOf(t, lastEpoch, firstOf(10)...)
	for view := 1; view <= lastView; view++ {
		p.enter(view-1, api.ErrView)
		p.enter(view, api.OK)
		p.enter(view, api.ErrView)
		if p.l.View() != view {
			t.Error(p.l.View())
		}
	}
	p.enter(16, api.ErrView)
	p.fill(241, join(3), 0, 1, 2, 3, 4, 5, 6)
	p.expectCommitted(241, join(3))
	p.expectCert(241, 15, join(3), 0, 1, 2, 3, 4, 5, 6)
}

// callAll tells the log of a slot in each way, as the member and as the proposal, and expects one answer.
func callAll(p *pair, from, slot int, r api.Request, want api.Errno) {
	p.t.Helper()
	p.propose(slot, r, want)
	p.prepare(from, slot, r, want)
	p.commit(from, slot, r, want)
}

func TestEachSlotOfEachEpoch(t *testing.T) {
	for epoch := range lastEpoch + 1 {
		p := pairOf(t, epoch, 0, 1, 2, 3)
		for _, slot := range []int{4 * epoch, 4*epoch + 5, 4*epoch - 1, 4*epoch + 6, -4*epoch - 1, 0, -1} {
			callAll(p, 0, slot, get("k"), api.ErrSlot)
		}
		for _, slot := range []int{4*epoch + 4, 4*epoch + 1, 4*epoch + 3, 4*epoch + 2} {
			callAll(p, 0, slot, get("k"), api.OK)
		}
		p.expectSize(12)
	}
}

func TestFarSlots(t *testing.T) {
	for _, epoch := range []int{2, 17, 58} {
		p := pairOf(t, epoch, 0, 1, 2, 3)
		for _, slot := range farSlots() {
			callAll(p, 1, slot, get("k"), api.ErrSlot)
		}
		p.expectSize(0)
	}
}

// Whatever may stand can be proposed, prepared and committed, and is answered so.
func TestEachRequest(t *testing.T) {
	for _, r := range unlike() {
		p := pairOf(t, 3, 2, 5, 9, 11)
		p.fill(14, r, 5, 2, 11)
		p.expectPrepared(14, true)
		p.expectCert(14, 0, r, 2, 5, 11)
		p.expectCommitted(14, r)
		if got, ok := p.l.Proposed(14); !ok || !isExact(got, r) {
			t.Errorf("%v %v, not %v", got, ok, r)
		}
	}
}

func TestRequestsThatAreNeitherRightNorNull(t *testing.T) {
	p := pairOf(t, 0, 0, 1, 2, 3)
	for _, r := range neither() {
		callAll(p, 0, 1, r, api.ErrArg)
	}
	p.expectSize(0)
	p.fill(1, get("k"), 0, 1, 2)
	for _, r := range neither() {
		callAll(p, 0, 1, r, api.ErrArg)
		callAll(p, 3, 1, r, api.ErrArg)
	}
}

// A second proposal is refused, and told apart by being the same or not.
func TestProposalsThatAreTheSameAndOthers(t *testing.T) {
	list := unlike()
	for i, first := range list {
		p := pairOf(t, 0, 0, 1, 2, 3)
		p.propose(2, first, api.OK)
		for k, second := range list {
			want := api.ErrOther
			if k == i {
				want = api.ErrSame
			}
			p.propose(2, second, want)
		}
		p.expectSize(1)
		p.propose(3, first, api.OK) // another slot is another matter
	}
}

// Who has prepared or committed once is refused, with the same and with another one; what another said is another matter.
func TestTwice(t *testing.T) {
	list := unlike()
	for i, first := range list {
		p := pairOf(t, 0, 0, 1, 2, 3)
		p.prepare(1, 2, first, api.OK)
		p.commit(3, 2, first, api.OK)
		for _, second := range list {
			p.prepare(1, 2, second, api.ErrSame)
			p.commit(3, 2, second, api.ErrSame)
		}
		p.expectSize(2)
		other := list[(i+1)%len(list)]
		p.commit(1, 2, other, api.OK)
		p.prepare(3, 2, other, api.OK)
		p.prepare(1, 3, other, api.OK)
		p.commit(3, 3, other, api.OK)
		p.expectSize(6)
	}
}

// From view to view all may say another thing again.
func TestAgainInALaterView(t *testing.T) {
	p := pairOf(t, 0, 0, 1, 2, 3)
	for view, r := range unlike()[:lastView+1] {
		if view > 0 {
			p.enter(view, api.OK)
		}
		p.expectSize(0)
		for _, slot := range slotsOf(0) {
			callAll(p, 1, slot, r, api.OK)
		}
		p.expectSize(12)
	}
}

func TestStrangers(t *testing.T) {
	for _, c := range someConfs() {
		p := pairOf(t, c.Epoch, c.Members...)
		slot := 4*c.Epoch + 1
		for _, id := range strangers(c.Members) {
			p.prepare(id, slot, get("k"), api.ErrAbsent)
			p.commit(id, slot, get("k"), api.ErrAbsent)
		}
		p.expectSize(0)
		for _, id := range c.Members {
			p.prepare(id, slot, get("k"), api.OK)
			p.commit(id, slot, get("k"), api.OK)
		}
		p.expectSize(2 * len(c.Members))
	}
}

// wrongSigs answers signatures that aren't the member 1's of r in the epoch 2, the view 3 and the slot 10.
func wrongSigs(r api.Request) []api.Sig {
	own := sign(1, 2, 3, 10, r)
	list := []api.Sig{
		{}, {By: 1}, {Text: own.Text}, {By: 0, Text: own.Text}, {By: 2, Text: own.Text}, {By: -1, Text: own.Text}, {By: 17, Text: own.Text}, {By: 101, Text: own.Text}, {By: math.MaxInt, Text: own.Text},
		{By: 1, Text: textOf(r)}, {By: 1, Text: own.Text[:len(own.Text)-1]}, {By: 1, Text: own.Text[1:]}, {By: 1, Text: own.Text + "\x00"}, {By: 1, Text: "S" + own.Text[1:]}, {By: 1, Text: "C\x00\x02\x04\x00\x01\x02\x03"},
		sign(1, 1, 3, 10, r), sign(1, 3, 3, 10, r), sign(1, 0, 3, 10, r),
		sign(1, 2, 2, 10, r), sign(1, 2, 4, 10, r), sign(1, 2, 0, 10, r),
		sign(1, 2, 3, 9, r), sign(1, 2, 3, 11, r), sign(1, 2, 3, 0, r), sign(1, 2, 10, 3, r),
	}
	for _, other := range unlike() {
		if !isExact(other, r) {
			list = append(list, sign(1, 2, 3, 10, other))
		}
	}
	for i := range own.Text {
		bytes := []byte(own.Text)
		bytes[i] ^= 1
		list = append(list, api.Sig{By: 1, Text: string(bytes)})
	}
	return list
}

func TestWrongSignatures(t *testing.T) {
	for _, r := range []api.Request{null(), put("k", minusNought), put("k", 0), join(15)} {
		p := pairOf(t, 2, 0, 1, 2, 3)
		p.enter(3, api.OK)
		p.propose(10, r, api.OK)
		p.prepare(0, 10, r, api.OK)
		p.prepare(2, 10, r, api.OK)
		for _, s := range wrongSigs(r) {
			p.prepareWith(1, 10, r, s, api.ErrSig)
		}
		p.expectPrepared(10, false)
		p.expectSize(3)
		p.prepareWith(1, 10, r, sign(1, 2, 3, 10, r), api.OK)
		p.expectPrepared(10, true)
		for _, s := range wrongSigs(r) {
			p.prepareWith(1, 10, r, s, api.ErrSig) // ahead of ErrSame
		}
	}
}

// A signature of an earlier view, or of a later one, is none of this view's.
func TestSignaturesOfOtherViews(t *testing.T) {
	r := get("k")
	p := pairOf(t, 5, 0, 1, 2, 3)
	for view := range lastView + 1 {
		if view > 0 {
			p.enter(view, api.OK)
		}
		for other := range lastView + 2 {
			if other != view {
				p.prepareWith(0, 21, r, sign(0, 5, other, 21, r), api.ErrSig)
			}
		}
		p.prepareWith(0, 21, r, sign(0, 5, view, 21, r), api.OK)
	}
}

// R1: the first error is told. Each call is wrong in the way named, and in all ways named behind it.
func TestWhichErrorIsTold(t *testing.T) {
	p := pairOf(t, 1, 0, 1, 2, 3)
	r, other, wrong := get("k"), get("l"), get("")
	p.propose(5, r, api.OK)
	p.prepare(0, 5, r, api.OK)
	p.commit(0, 5, r, api.OK)
	for _, slot := range []int{5, 4, 9, 0, -1, math.MinInt} {
		p.propose(slot, wrong, api.ErrArg)
		for _, id := range []int{0, 1, 9, -1, 101} {
			p.prepareWith(id, slot, wrong, api.Sig{}, api.ErrArg)
			p.commit(id, slot, wrong, api.ErrArg)
		}
	}
	for _, slot := range []int{4, 9, 0, -1, 1, math.MinInt, math.MaxInt} {
		for _, q := range []api.Request{r, other, null()} {
			p.propose(slot, q, api.ErrSlot)
			for _, id := range []int{0, 1, 9, -1, 101} {
				p.prepareWith(id, slot, q, api.Sig{}, api.ErrSlot)
				p.prepare(id, slot, q, api.ErrSlot)
				p.commit(id, slot, q, api.ErrSlot)
			}
		}
	}
	for _, id := range []int{9, -1, 101, 4, 15} {
		p.prepareWith(id, 5, r, api.Sig{}, api.ErrAbsent)
		p.prepareWith(id, 5, r, sign(0, 1, 0, 5, r), api.ErrAbsent)
		p.prepare(id, 5, other, api.ErrAbsent)
		p.commit(id, 5, other, api.ErrAbsent)
	}
	p.prepareWith(0, 5, r, api.Sig{}, api.ErrSig)
	p.prepareWith(0, 5, other, sign(0, 1, 0, 5, r), api.ErrSig)
	p.prepare(0, 5, r, api.ErrSame)
	p.prepare(0, 5, other, api.ErrSame)
	p.expectSize(3)
}

// R5: a real counts by its bits. All NaNs are one; both noughts are two.
func TestRealsCountByTheirBits(t *testing.T) {
	for _, one := range nans() {
		for _, two := range nans() {
			p := pairOf(t, 0, 0, 1, 2, 3)
			p.propose(1, put("k", one), api.OK)
			p.propose(1, put("k", two), api.ErrSame)
			p.propose(1, put("k", 1), api.ErrOther)
			for id, x := range []float64{two, one, two} {
				p.prepare(id, 1, put("k", x), api.OK)
				p.commit(id, 1, put("k", x), api.OK)
			}
			p.prepare(0, 1, put("k", two), api.ErrSame)
			want := put("k", math.Float64frombits(oneNaN))
			p.expectCert(1, 0, want, 0, 1, 2)
			p.expectCommitted(1, want)
		}
	}
	p := pairOf(t, 0, 0, 1, 2, 3)
	p.propose(1, put("k", minusNought), api.OK)
	p.propose(1, put("k", 0), api.ErrOther)
	p.prepareWith(0, 1, put("k", minusNought), sign(0, 0, 0, 1, put("k", 0)), api.ErrSig)
	p.prepareWith(0, 1, put("k", 0), sign(0, 0, 0, 1, put("k", minusNought)), api.ErrSig)
	for id := range 3 {
		p.prepare(id, 1, put("k", 0), api.OK)
		p.commit(id, 1, put("k", 0), api.OK)
	}
	p.expectPrepared(1, false)
	p.expectNothingCommitted(1)
	p.expectCerts(0)
}

// R7: a log that is nil. W0: and one that New didn't make.
func TestNilAndZeroLogs(t *testing.T) {
	var none *slots.Log
	for _, l := range []*slots.Log{none, {}} {
		for range 2 {
			for _, slot := range append(farSlots(), slotsOf(0)...) {
				for _, r := range append(unlike()[:4], neither()[:4]...) {
					expectRefuses(t, l, slot, r)
				}
				expectNothing(t, l, slot)
			}
			for _, view := range []int{-1, 0, 1, 15, 16, math.MinInt, math.MaxInt} {
				if e := l.Enter(view); e != api.ErrArg {
					t.Errorf("Enter(%d): %d", view, e)
				}
			}
		}
	}
}

func expectRefuses(t *testing.T, l *slots.Log, slot int, r api.Request) {
	t.Helper()
	for _, id := range []int{0, 1, -1, 15, 16, math.MinInt, math.MaxInt} {
		e, f := l.Prepare(id, slot, r, sign(id, 0, 0, slot, r)), l.Commit(id, slot, r)
		if e != api.ErrArg || f != api.ErrArg {
			t.Errorf("%d %d", e, f)
		}
	}
	if e := l.Propose(slot, r); e != api.ErrArg {
		t.Errorf("%d", e)
	}
}

func expectNothing(t *testing.T, l *slots.Log, slot int) {
	t.Helper()
	r, is := l.Proposed(slot)
	x, ok := l.Committed(slot)
	if !isNull(r) || is || !isNull(x) || ok || l.Prepared(slot) {
		t.Error(r, is, x, ok)
	}
	if l.View() != 0 || l.Size() != 0 || len(l.Certs()) != 0 {
		t.Error(l.View(), l.Size(), l.Certs())
	}
}
