package lanes_test

import (
	"math"
	"slices"
	"strings"
	"testing"

	"witan/api"
)

// P20.1: who may inject.

func TestInjectByWhom(t *testing.T) {
	m := api.Msg{Kind: api.MFetch}
	for _, bad := range [][]int{nil, {}, {3}, {0}, {3, 5, 101}, {5, 3, 3, -1}, {math.MinInt, math.MaxInt, 200}} {
		p := pairOf(t, bad...)
		for _, from := range append(oddNumbers(), 200) {
			want := api.ErrArg
			if slices.Contains(bad, from) {
				want = api.OK
			}
			if e := p.inject(packet(from, 1, m)); e != want {
				t.Errorf("of %v by %d: %d", bad, from, e)
			}
		}
		p.drain()
	}
}

// To whom isn't asked.
func TestInjectToWhom(t *testing.T) {
	p := pairOf(t, 3)
	for _, to := range oddNumbers() {
		if e := p.inject(packet(3, to, api.Msg{Kind: api.MFetch})); e != api.OK {
			t.Error(to, e)
		}
	}
	p.drain()
}

// P20.1: what is injected.

func TestInjectOfEachKind(t *testing.T) {
	p := pairOf(t, 3)
	for i, m := range messages(numbered(3, "x")) {
		if e := p.inject(packet(3, i, m)); e != api.OK {
			t.Error(i, e)
		}
	}
	p.drain()
}

func TestInjectOfWhatDoesNotFit(t *testing.T) {
	long := strings.Repeat("x", 65536)
	for i, m := range []api.Msg{
		{}, {Kind: -1}, {Kind: 11}, {Kind: math.MaxInt}, full(numbered(3, "x")),
		{Kind: api.MFetch, Epoch: -1}, {Kind: api.MFetch, Epoch: 61}, {Kind: api.MFetch, View: 1}, {Kind: api.MFetch, Sigs: []api.Sig{sig(3, "x")}},
		prepare(), prepare(sig(3, "x"), sig(3, "x")), prepare(sig(-1, "x")), prepare(sig(200, "x")), prepare(sig(3, long)),
		{Kind: api.MVote, Slot: 4, Text: long, Next: []int{0, 1, 2, 3}, Sigs: []api.Sig{sig(3, "x"), sig(3, "y")}},
		{Kind: api.MVote, Slot: 4, Text: long[:65535], Next: []int{0, 1, 2, 3}, Sigs: []api.Sig{sig(3, "x"), sig(3, "y")}},
	} {
		p := pairOf(t, 3, 200, -1)
		if e := p.inject(packet(3, 1, m)); e != api.ErrField {
			t.Error(i, e)
		}
		p.drain()
	}
	p := pairOf(t, 3)
	if e := p.inject(packet(3, 1, prepare(sig(3, long[:65500])))); e != api.OK {
		t.Error(e)
	}
	p.drain()
}

// P20.1, P20.3: each place of each message counts. A signature of an honest node that nobody sent is refused there; one that was sent, or of another bad node, isn't.
func TestInjectWithEachSignature(t *testing.T) {
	for i := range messages(numbered(3, "x")) {
		for at := range len(spots(&messages(numbered(3, "x"))[i])) {
			p := pairOf(t, 3, 199)
			with := func(s api.Sig) api.Packet {
				m := messages(numbered(3, "x"))[i]
				*spots(&m)[at] = s
				return packet(3, 0, m)
			}
			expectInject(t, p, with(sig(199, "y")), api.OK)
			expectInject(t, p, with(sig(1, "y")), api.ErrSig)
			p.send(packet(1, 2, prepare(sig(1, "y"))))
			expectInject(t, p, with(sig(1, "y")), api.OK)
			for _, s := range []api.Sig{sig(2, "y"), sig(1, "yy"), sig(1, ""), sig(1, "Y"), sig(101, "y"), sig(198, "y"), sig(0, "")} {
				expectInject(t, p, with(s), api.ErrSig)
			}
			p.drain()
		}
	}
}

// P20.1, P20.3: all signatures of what is sent are noted, wherever they stand, whether the message fits or not.
func TestEachSignatureThatIsSentIsNoted(t *testing.T) {
	list := append(messages(numbered(1, "x")), full(numbered(1, "x")), api.Msg{Kind: 99, Sigs: []api.Sig{sig(-5, "z"), sig(1, "z")}})
	for _, m := range list {
		p := pairOf(t, 3)
		p.send(packet(1, 2, m))
		for _, s := range spots(&m) {
			want := api.OK
			if s.By < 0 || s.By > 199 {
				want = api.ErrField
			}
			expectInject(t, p, packet(3, 0, prepare(*s)), want)
			expectInject(t, p, packet(3, 0, prepare(sig(s.By, s.Text+"!"))), map[bool]api.Errno{true: api.ErrSig, false: api.ErrField}[want == api.OK])
		}
		p.drain()
	}
}

// Of several that are sent all are noted, the first, those between and the last, in one call and in several.
func TestSignaturesOfAllThatAreSent(t *testing.T) {
	p := pairOf(t, 3)
	var list []api.Packet
	next := numbered(1, "x")
	for range 9 {
		list = append(list, packet(1, 2, prepare(next())))
	}
	p.send(list[:5]...)
	for i, x := range list {
		want := api.OK
		if i >= 5 {
			want = api.ErrSig
		}
		expectInject(t, p, packet(3, 0, x.Msg), want)
	}
	p.send(list[5:]...)
	for _, x := range list {
		expectInject(t, p, packet(3, 0, x.Msg), api.OK)
	}
	p.drain()
}

// What was noted stays so, whatever becomes of the packet.
func TestWhatWasNotedStays(t *testing.T) {
	for _, leave := range []func(*pair){func(p *pair) { p.take(0) }, func(p *pair) { p.drop(0) }, func(p *pair) { p.drain() }} {
		p := pairOf(t, 3)
		p.send(packet(1, 2, prepare(sig(1, "x"))))
		leave(p)
		expectInject(t, p, packet(3, 0, prepare(sig(1, "x"))), api.OK)
		p.drain()
		expectInject(t, p, packet(3, 0, prepare(sig(1, "x"))), api.OK)
	}
}

// What is injected, taken or copied notes nothing: a bad node's own signature stands in no book, as nobody but the bad ones needs it.
func TestInjectNotesNothing(t *testing.T) {
	p := pairOf(t, 3)
	expectInject(t, p, packet(3, 0, prepare(sig(3, "x"))), api.OK)
	expectInject(t, p, packet(3, 0, prepare(sig(1, "x"))), api.ErrSig)
	expectInject(t, p, packet(3, 0, prepare(sig(1, "x"))), api.ErrSig)
	p.copy(0)
	p.take(0)
	expectInject(t, p, packet(3, 0, prepare(sig(1, "x"))), api.ErrSig)
	two := api.Msg{Kind: api.MVote, Slot: 4, Text: "st", Next: []int{0, 1, 2, 3}, Sigs: []api.Sig{sig(3, "x"), sig(1, "x")}}
	expectInject(t, p, packet(3, 0, two), api.ErrSig)
	two.Sigs = []api.Sig{sig(1, "x"), sig(3, "x")}
	expectInject(t, p, packet(3, 0, two), api.ErrSig)
	p.drain()
}

// Who signs is asked, not who sends: a bad node may inject another bad one's signature, and a packet with an honest one's, never one from an honest node.
func TestInjectOfOneForAnother(t *testing.T) {
	p := pairOf(t, 5, 3)
	expectInject(t, p, packet(3, 0, prepare(sig(5, "x"))), api.OK)
	expectInject(t, p, packet(5, 0, prepare(sig(3, "x"))), api.OK)
	expectInject(t, p, packet(4, 0, prepare(sig(5, "x"))), api.ErrArg)
	p.send(packet(4, 0, prepare(sig(4, "x"))))
	expectInject(t, p, packet(5, 0, prepare(sig(4, "x"))), api.OK)
	expectInject(t, p, packet(4, 0, prepare(sig(4, "x"))), api.ErrArg)
	p.drain()
}

// R1: of several errors the first one is answered.
func TestOrderOfErrors(t *testing.T) {
	stranger, unfit, unseen, right := 2, api.Msg{}, prepare(sig(1, "x")), prepare(sig(3, "x"))
	unfitAndUnseen := api.Msg{Kind: api.MFetch, Sigs: []api.Sig{sig(1, "x")}}
	for _, isFull := range []bool{false, true} {
		p := pairOf(t, 3)
		last := api.OK
		if isFull {
			p.send(fetches(0, maxLane)...)
			last = api.ErrFull
		}
		for _, m := range []api.Msg{unfit, unfitAndUnseen, unseen, right} {
			expectInject(t, p, packet(stranger, 0, m), api.ErrArg)
		}
		expectInject(t, p, packet(3, 0, unfit), api.ErrField)
		expectInject(t, p, packet(3, 0, unfitAndUnseen), api.ErrField)
		expectInject(t, p, packet(3, 0, unseen), api.ErrSig)
		expectInject(t, p, packet(3, 0, right), last)
		p.drain()
	}
}

// R3: what is refused changes nothing.
func TestWhatIsRefusedLeavesTheRow(t *testing.T) {
	p := pairOf(t, 3)
	p.send(fetches(0, 3)...)
	expectInject(t, p, packet(2, 7, prepare(sig(3, "x"))), api.ErrArg)
	expectInject(t, p, packet(3, 7, api.Msg{}), api.ErrField)
	expectInject(t, p, packet(3, 7, prepare(sig(1, "x"))), api.ErrSig)
	expectTaken(t, p, 0, 3)
}

func expectInject(t *testing.T, p *pair, x api.Packet, want api.Errno) {
	t.Helper()
	if e := p.inject(x); e != want {
		t.Errorf("of %v by %d: answered %d, asked %d: %.200s", p.m.bad, x.From, e, want, tell(x))
	}
}
