package lanes_test

import (
	"math"
	"slices"
	"strconv"
	"testing"

	"witan/api"
	"witan/lanes"
)

// P20.1: the chapter's example.

func TestExample(t *testing.T) {
	p := pairOf(t, 3)
	if e := p.inject(packet(3, 0, prepare(sig(3, "x")))); e != api.OK {
		t.Error(e)
	}
	if e := p.inject(packet(3, 0, prepare(sig(1, "x")))); e != api.ErrSig {
		t.Error(e)
	}
	p.send(packet(1, 2, prepare(sig(1, "x"))))
	if e := p.inject(packet(3, 0, prepare(sig(1, "x")))); e != api.OK {
		t.Error(e)
	}
	p.drain()
}

// P20.1, P20.2: what is sent comes behind the row.

func TestNothingIsUnderWayAtFirst(t *testing.T) {
	for _, bad := range [][]int{nil, {}, {3}, {1, 2, 3}} {
		p := pairOf(t, bad...)
		for _, n := range oddNumbers() {
			if _, ok := p.take(n); ok || p.drop(n) || p.copy(n) {
				t.Error(bad, n)
			}
		}
	}
}

func TestSendOfNoneOneAndMany(t *testing.T) {
	p := pairOf(t)
	p.send()
	p.send([]api.Packet{}...)
	if p.l.Len() != 0 {
		t.Fatal(p.l.Len())
	}
	p.send(fetch(0))
	p.send(fetch(1), fetch(2))
	p.send()
	p.send(fetches(3, 40)...)
	expectTaken(t, p, 0, 40)
}

func TestSendOfEachKind(t *testing.T) {
	p := pairOf(t, 3)
	for i, m := range messages(numbered(1, "x")) {
		p.send(packet(i, 100-i, m))
	}
	p.send(packet(0, 0, full(numbered(2, "y"))), packet(0, 0, api.Msg{}), packet(math.MinInt, math.MaxInt, api.Msg{Kind: 11}))
	p.drain()
}

// What is alike is under way as often as it came.
func TestSendOfTheSameAgain(t *testing.T) {
	p := pairOf(t)
	x := packet(1, 2, prepare(sig(1, "x")))
	p.send(x, x)
	p.send(x)
	if p.l.Len() != 3 {
		t.Fatal(p.l.Len())
	}
	p.drain()
}

// Who sends isn't asked: also a bad node's packet goes, and one of a node that there isn't.
func TestSendOfAnyNode(t *testing.T) {
	p := pairOf(t, 3)
	for _, n := range oddNumbers() {
		p.send(packet(n, 1, prepare(sig(n, "x"))), packet(3, n, prepare(sig(n, "y"))))
	}
	p.drain()
}

// R5: each real is answered with its bits, of whatever NaN those of the one NaN.
func TestReals(t *testing.T) {
	for i, x := range []struct {
		real float64
		bits uint64
	}{
		{0, 0}, {minusNought, 1 << 63}, {1.5, 0x3FF8000000000000}, {math.Inf(1), 0x7FF0000000000000}, {math.Inf(-1), 0xFFF0000000000000},
		{math.SmallestNonzeroFloat64, 1}, {math.MaxFloat64, 0x7FEFFFFFFFFFFFFF},
		{nanOf(0x7FF8000000000000), 0x7FF8000000000000}, {math.NaN(), 0x7FF8000000000000}, {nanOf(0x7FF0000000000001), 0x7FF8000000000000},
		{nanOf(0xFFF8000000000000), 0x7FF8000000000000}, {nanOf(0xFFFFFFFFFFFFFFFF), 0x7FF8000000000000}, {nanOf(0x7FFFFFFFFFFFFFFF), 0x7FF8000000000000},
	} {
		certs := []api.Cert{{Slot: 1}, {Slot: 2, Req: put(x.real)}}
		ways := []api.Msg{
			{Kind: api.MReply, Req: put(x.real), Result: api.Result{Real: x.real}},
			{Kind: api.MNewView, View: 1, Changes: []api.Change{{From: 0, View: 1}, {From: 1, View: 1, Certs: certs}}},
		}
		p := pairOf(t, 3)
		for _, m := range ways {
			p.send(packet(1, 2, m))
			if e := p.inject(packet(3, 2, m)); e != api.OK {
				t.Error(i, e)
			}
			p.copy(-1)
		}
		for range 3 {
			got, _ := p.take(0)
			expectBits(t, got.Msg.Req.Op.Real, x.bits)
			expectBits(t, got.Msg.Result.Real, x.bits)
		}
		for range 3 {
			got, _ := p.take(0)
			expectBits(t, got.Msg.Changes[1].Certs[1].Req.Op.Real, x.bits)
		}
	}
}

func expectBits(t *testing.T, x float64, want uint64) {
	t.Helper()
	if got := math.Float64bits(x); got != want {
		t.Errorf("%016x, asked %016x", got, want)
	}
}

// P20.1, P20.2: the packet n.

// Each number, within the row and beyond it on both sides, in rows of each length up to nine.
func TestTakeDropAndCopyOfEachNumber(t *testing.T) {
	for count := 1; count <= 9; count++ {
		for n := -3*count - 2; n <= 3*count+2; n++ {
			p := pairOf(t, 3)
			p.send(fetches(0, count)...)
			want := ((n % count) + count) % count
			if got, ok := p.take(n); !ok || got.To != want || p.l.Len() != count-1 {
				t.Errorf("the packet %d of %d is %d", n, count, got.To)
			}
			p.drain()
			p.send(fetches(0, count)...)
			if !p.drop(n) || p.l.Len() != count-1 {
				t.Errorf("the packet %d of %d stays", n, count)
			}
			for to := range count {
				if to != want {
					expectTo(t, p, to)
				}
			}
			p.send(fetches(0, count)...)
			if !p.copy(n) || p.l.Len() != count+1 {
				t.Errorf("the packet %d of %d isn't copied", n, count)
			}
			for to := range count {
				expectTo(t, p, to)
			}
			expectTo(t, p, want)
			p.drain()
		}
	}
}

// The numbers that are as great as they can be: 2^63 - 1 is 1 modulo 3, and -2^63 is 1 too.
func TestTheGreatestNumbers(t *testing.T) {
	for _, x := range []struct{ n, count, want int }{
		{math.MaxInt, 3, 1}, {math.MinInt, 3, 1}, {math.MaxInt, 1, 0}, {math.MinInt, 1, 0}, {math.MaxInt, 2, 1}, {math.MinInt, 2, 0},
		{math.MaxInt, 5, 2}, {math.MinInt, 5, 2}, {-1, 7, 6}, {7, 7, 0}, {-7, 7, 0}, {-8, 7, 6}, {8, 7, 1}, {math.MaxInt, maxLane, maxLane - 1}, {math.MinInt, maxLane, 0},
	} {
		p := pairOf(t)
		p.send(fetches(0, x.count)...)
		if x.count < maxLane && !p.copy(x.n) {
			t.Error("no copy", x)
		}
		if got, _ := p.take(-1); x.count < maxLane && got.To != x.want {
			t.Error("copied", got.To, x)
		}
		if x.count == maxLane {
			p.send(fetch(maxLane - 1)) // the row is as it was
		}
		if got, ok := p.take(x.n); !ok || got.To != x.want {
			t.Error("taken", got.To, x)
		}
		p.send(fetches(0, x.count)...)
		p.drop(x.n)
		p.drain()
	}
}

// P20.2: taken from the place 0 one by one, what came comes in its order, whatever leaves the row or is copied between.
func TestOrder(t *testing.T) {
	p := pairOf(t, 3)
	p.send(fetches(0, 5)...)
	p.inject(packet(3, 5, api.Msg{Kind: api.MFetch}))
	p.send(fetch(6))
	p.copy(2)
	p.drop(3)
	p.send(fetch(8))
	for _, to := range []int{0, 1, 2, 4, 5, 6, 2, 8} {
		expectTo(t, p, to)
	}
	p.drain()
}

// A row that is filled and emptied again and again.
func TestRoundAndRound(t *testing.T) {
	p := pairOf(t)
	next, first := 0, 0
	for round := range 60 {
		count := round%7 + 1
		p.send(fetches(next, next+count)...)
		next += count
		for range min(round%5+2, next-first) {
			expectTo(t, p, first)
			first++
		}
	}
	expectTaken(t, p, first, next)
}

// P20.1: the row at its bound.

func TestFullRow(t *testing.T) {
	p := pairOf(t, 3)
	p.send(fetches(0, maxLane-1)...)
	if p.l.Len() != 4095 {
		t.Fatal(p.l.Len())
	}
	p.send(fetches(maxLane-1, maxLane+3)...)
	if p.l.Len() != 4096 {
		t.Fatal(p.l.Len())
	}
	p.send(fetch(maxLane + 3))
	bad := packet(3, 9, prepare(sig(3, "x")))
	if e := p.inject(bad); e != api.ErrFull || p.copy(0) || p.copy(-1) {
		t.Error(e)
	}
	expectTo(t, p, 0)
	if !p.copy(0) || p.copy(0) {
		t.Error("one copy more may come")
	}
	p.drop(4095)
	if e := p.inject(bad); e != api.OK {
		t.Error(e)
	}
	if e := p.inject(bad); e != api.ErrFull {
		t.Error(e)
	}
	p.take(-1)
	p.send(fetch(4096), fetch(4097))
	expectTaken(t, p, 1, maxLane+1)
}

// What is lost is noted, and so is all that comes behind it.
func TestWhatIsLostIsNoted(t *testing.T) {
	p := pairOf(t, 3)
	p.send(fetches(0, maxLane-1)...)
	p.send(packet(1, 2, prepare(sig(1, "last"))), packet(1, 2, prepare(sig(1, "lost"))), packet(2, 1, prepare(sig(2, "lost, too"))))
	p.send(packet(1, 2, prepare(sig(1, "later"))))
	for _, s := range []api.Sig{sig(1, "last"), sig(1, "lost"), sig(2, "lost, too"), sig(1, "later")} {
		if e := p.inject(packet(3, 0, prepare(s))); e != api.ErrFull {
			t.Error(s, e)
		}
	}
	if e := p.inject(packet(3, 0, prepare(sig(2, "lost")))); e != api.ErrSig {
		t.Error(e)
	}
	for range 4 {
		p.drop(0)
	}
	for _, s := range []api.Sig{sig(1, "last"), sig(1, "lost"), sig(2, "lost, too"), sig(1, "later")} {
		if e := p.inject(packet(3, 0, prepare(s))); e != api.OK {
			t.Error(s, e)
		}
	}
	if p.l.Len() != maxLane {
		t.Error(p.l.Len())
	}
}

// All at once, far more than there is room for: the first ones are under way, and the last one is noted.
func TestFarTooMany(t *testing.T) {
	p := pairOf(t, 3)
	p.send(append(fetches(0, 3*maxLane), packet(1, 2, prepare(sig(1, "lost"))))...)
	p.drop(-1)
	if e := p.inject(packet(3, maxLane-1, prepare(sig(1, "lost")))); e != api.OK {
		t.Error(e)
	}
	expectTaken(t, p, 0, maxLane)
}

// R7: of nil nothing is sent, taken, dropped or copied.
func TestNilAndZeroLanes(t *testing.T) {
	var none *lanes.Lane
	for range 2 {
		none.Send()
		none.Send(fetch(1), packet(1, 2, prepare(sig(1, "x"))))
		for _, n := range oddNumbers() {
			if x, ok := none.Take(n); ok || tell(x) != tell(api.Packet{}) || none.Drop(n) || none.Copy(n) || none.Len() != 0 {
				t.Error(n)
			}
			if e := none.Inject(packet(n, 1, prepare(sig(n, "x")))); e != api.ErrArg {
				t.Error(n, e)
			}
		}
	}
	zero := &lanes.Lane{}
	zero.Send(fetch(1), packet(1, 2, prepare(sig(1, "x"))))
	if e := zero.Inject(packet(0, 1, prepare(sig(1, "x")))); e != api.ErrArg || zero.Len() != 2 || !zero.Copy(0) || !zero.Drop(1) {
		t.Error(e, zero.Len())
	}
	if x, ok := zero.Take(-1); !ok || x.To != 1 || zero.Len() != 1 {
		t.Error(x, ok)
	}
}

// R6: two lanes beside each other know nothing of one another.
func TestTwoLanes(t *testing.T) {
	one, other := pairOf(t, 3), pairOf(t, 2)
	one.send(fetch(0), packet(1, 2, prepare(sig(1, "x"))))
	if other.l.Len() != 0 || other.copy(0) {
		t.Error(other.l.Len())
	}
	if e := other.inject(packet(2, 0, prepare(sig(1, "x")))); e != api.ErrSig {
		t.Error(e)
	}
	if e := other.inject(packet(3, 0, prepare(sig(3, "x")))); e != api.ErrArg {
		t.Error(e)
	}
	if e := one.inject(packet(3, 0, prepare(sig(1, "x")))); e != api.OK {
		t.Error(e)
	}
	if e := one.inject(packet(3, 0, prepare(sig(2, "x")))); e != api.ErrSig {
		t.Error(e)
	}
	other.send(fetch(7))
	expectTaken(t, other, 7, 8)
	one.drain()
	other.drain()
}

// expectTaken holds that all that is under way are those to the first number up to the one ahead of the end, in this order.
func expectTaken(t *testing.T, p *pair, first, end int) {
	t.Helper()
	for to := first; to < end; to++ {
		expectTo(t, p, to)
	}
	if p.l.Len() != 0 || p.drop(0) {
		t.Fatal("more are under way")
	}
}

func expectTo(t *testing.T, p *pair, to int) {
	t.Helper()
	if got, ok := p.take(0); !ok || got.To != to {
		t.Fatalf("taken %v %d, asked %s", ok, got.To, strconv.Itoa(to))
	}
}

func oddNumbers() []int {
	list := []int{math.MinInt, math.MinInt + 1, math.MaxInt, math.MaxInt - 1, 101, 4095, 4096, 4097, -4095, -4096, -4097, 1 << 32, -1 << 32}
	for n := -5; n <= 16; n++ {
		list = append(list, n)
	}
	return slices.Clip(list)
}
