package ledger_test

import (
	"math"
	"strings"
	"testing"

	"witan/api"
)

// P12.1: what requests come to.

func TestKeyThatIsNone(t *testing.T) {
	p := four(t)
	for i, kind := range []int{api.OpAdd, api.OpMax, api.OpCut, api.OpGet} {
		p.comes(request(1, i+1, kind, "k", 0, 0), api.CodeNone, 0)
	}
	p.comes(request(1, 5, api.OpAdd, "k", math.NaN(), 0), api.CodeNone, 0)
	p.comes(request(1, 6, api.OpMax, "k", minusNought, 0), api.CodeNone, 0)
	if _, found := p.l.Get("k"); found {
		t.Error("a key came of nothing")
	}
}

func TestKeyThatIsThere(t *testing.T) {
	p := four(t)
	p.comes(put(1, 1, "k", 1.5), api.CodeOK, 1.5)
	p.comes(get(1, 2, "k"), api.CodeOK, 1.5)
	p.comes(request(1, 3, api.OpAdd, "k", -4, 0), api.CodeOK, -2.5)
	p.comes(request(1, 4, api.OpMax, "k", -3, 0), api.CodeOK, -2.5)
	p.comes(request(1, 5, api.OpMax, "k", 7, 0), api.CodeOK, 7)
	p.comes(put(1, 6, "k", -1), api.CodeOK, -1)
	p.comes(get(2, 1, "k"), api.CodeOK, -1)
	p.comes(cut(3, 1, "k"), api.CodeOK, -1)
	p.comes(get(2, 2, "k"), api.CodeNone, 0)
	p.comes(cut(3, 2, "k"), api.CodeNone, 0)
	p.comes(put(1, 7, "k", 0), api.CodeOK, 0)
}

// Keys that are alike in part are unlike keys; any bytes may be one.
func TestKeysAreApart(t *testing.T) {
	p := four(t)
	keys := []string{"k", "kk", "K", "k\x00", "\x00", "\xff", "0123456789abcdef", strings.Repeat("\xff", 16), "é", "\xc3"}
	for i, key := range keys {
		p.comes(put(1, i+1, key, float64(i)), api.CodeOK, float64(i))
	}
	for i, key := range keys {
		p.comes(request(2, i+1, api.OpAdd, key, 100, 0), api.CodeOK, float64(i+100))
	}
	p.comes(cut(3, 1, "k"), api.CodeOK, 100)
	for i, key := range keys[1:] {
		p.comes(get(4, i+1, key), api.CodeOK, float64(i+101))
	}
}

// Every real put, and every other one added to it and held against it; whatever NaN it was.
func TestEveryTwoReals(t *testing.T) {
	for _, a := range someReals() {
		for _, b := range someReals() {
			for _, kind := range []int{api.OpPut, api.OpAdd, api.OpMax} {
				p := four(t)
				p.do(put(1, 1, "k", a))
				p.do(request(2, 1, kind, "k", b, 0))
				p.do(get(3, 1, "k"))
				p.do(cut(4, 1, "k"))
				p.turn()
				p.do(get(3, 2, "k"))
			}
		}
	}
}

func TestRealsWrittenOut(t *testing.T) {
	inf, nan := math.Inf(1), math.Float64frombits(oneNaN)
	odd := math.Float64frombits(0xFFF0000000000123)
	for _, x := range []struct {
		kind       int
		a, b, want float64
	}{
		{api.OpPut, 0, odd, nan},
		{api.OpPut, 0, minusNought, minusNought},
		{api.OpPut, odd, 0, 0},
		{api.OpAdd, inf, -inf, nan},
		{api.OpAdd, -inf, inf, nan},
		{api.OpAdd, inf, inf, inf},
		{api.OpAdd, odd, 1, nan},
		{api.OpAdd, 1, odd, nan},
		{api.OpAdd, minusNought, minusNought, minusNought},
		{api.OpAdd, minusNought, 0, 0},
		{api.OpAdd, 1, -1, 0},
		{api.OpAdd, math.MaxFloat64, math.MaxFloat64, inf},
		{api.OpAdd, 1e16, 1, 1e16},
		{api.OpAdd, 0.1, 0.2, math.Float64frombits(0x3FD3333333333334)},
		{api.OpMax, minusNought, 0, 0},
		{api.OpMax, 0, minusNought, 0},
		{api.OpMax, minusNought, minusNought, minusNought},
		{api.OpMax, inf, odd, nan},
		{api.OpMax, odd, inf, nan},
		{api.OpMax, -inf, -math.MaxFloat64, -math.MaxFloat64},
		{api.OpMax, -math.SmallestNonzeroFloat64, minusNought, minusNought},
		{api.OpMax, 2, 3, 3},
		{api.OpMax, 3, 2, 3},
	} {
		p := four(t)
		p.do(put(1, 1, "k", x.a))
		p.comes(request(2, 5, x.kind, "k", x.b, 0), api.CodeOK, x.want)
		if got, found := p.l.Get("k"); !found || math.Float64bits(got) != math.Float64bits(x.want) {
			t.Errorf("%d of %v, %v: the key has %x", x.kind, x.a, x.b, math.Float64bits(got))
		}
		if stamp, got := p.l.Last(2); stamp != 5 || math.Float64bits(got.Real) != math.Float64bits(x.want) {
			t.Errorf("%d of %v, %v: the last came to %x", x.kind, x.a, x.b, math.Float64bits(got.Real))
		}
	}
}

func sixteen(t *testing.T) *pair {
	t.Helper()
	p := four(t)
	for i := range mostKeys {
		p.comes(put(1, i+1, keyOf(i), float64(i)), api.CodeOK, float64(i))
	}
	return p
}

func TestSeventeenKeys(t *testing.T) {
	p := sixteen(t)
	p.comes(put(2, 1, keyOf(16), 5), api.CodeFull, 0)
	p.comes(put(2, 2, keyOf(16), math.NaN()), api.CodeFull, 0)
	p.comes(put(2, 3, keyOf(3), 5), api.CodeOK, 5)
	for i, kind := range []int{api.OpAdd, api.OpMax, api.OpGet, api.OpCut} {
		p.comes(request(3, i+1, kind, keyOf(16), 0, 0), api.CodeNone, 0)
		p.comes(put(4, i+1, keyOf(17), 1), api.CodeFull, 0)
	}
	p.comes(cut(2, 4, keyOf(7)), api.CodeOK, 7)
	p.comes(put(2, 5, keyOf(16), 5), api.CodeOK, 5)
	p.comes(put(2, 6, keyOf(7), 5), api.CodeFull, 0)
	p.comes(get(2, 7, keyOf(7)), api.CodeNone, 0)
	// What didn't take effect comes to the same again, though there would be room now.
	p.comes(cut(3, 5, keyOf(0)), api.CodeOK, 0)
	p.comes(put(2, 7, keyOf(7), 5), api.CodeNone, 0)
	p.comes(put(4, 4, keyOf(17), 1), api.CodeFull, 0)
	p.comes(put(4, 5, keyOf(17), 1), api.CodeOK, 1)
	p.comes(put(4, 6, keyOf(0), 1), api.CodeFull, 0)
}

func TestAllKeysCut(t *testing.T) {
	p := sixteen(t)
	empty := modelOf(firstMembers(4)).parts()[4]
	for i := range mostKeys {
		p.comes(cut(2, i+1, keyOf(15-i)), api.CodeOK, float64(15-i))
	}
	if p.m.parts()[4] != empty {
		t.Error("keys are left")
	}
	for i := range mostKeys {
		p.comes(put(3, i+1, keyOf(i+3), 1), api.CodeOK, 1)
	}
	p.comes(put(3, 17, keyOf(0), 1), api.CodeFull, 0)
}

func TestNullRequest(t *testing.T) {
	p := four(t)
	p.do(put(1, 1, "k", 2))
	parts := p.m.parts()
	for done := 2; done <= 4; done++ {
		p.comes(api.Request{}, api.CodeNull, 0)
		parts[3] = longBytes(done)
		if p.l.Text() != strings.Join(parts, "") {
			t.Error("something else changed")
		}
	}
	p.refuses(api.Request{}, api.ErrState)
}

// wrongRequests answers those that are neither right nor null.
func wrongRequests() []api.Request {
	list := []api.Request{
		{Client: 1, Stamp: 1},
		{Op: api.Op{Kind: api.OpGet, Key: "k"}},
		{Op: api.Op{Real: minusNought}},
		{Op: api.Op{Key: "k"}},
		{Op: api.Op{ID: 1}},
		{Client: 1},
		{Stamp: 1},
		get(0, 1, "k"), get(9, 1, "k"), get(-1, 1, "k"), get(101, 1, "k"), get(257, 1, "k"), get(math.MinInt, 1, "k"), get(math.MaxInt, 1, "k"),
		get(1, 0, "k"), get(1, -1, "k"), get(1, lastStamp+1, "k"), get(1, math.MaxInt, "k"), get(1, math.MinInt, "k"),
		get(1, 1, ""), get(1, 1, "0123456789abcdefg"), put(1, 1, "", 1), put(1, 1, strings.Repeat("x", 70000), 1),
		request(1, 1, api.OpGet, "k", 1, 0), request(1, 1, api.OpCut, "k", minusNought, 0), request(1, 1, api.OpGet, "k", math.NaN(), 0),
		join(1, 1, -1), join(1, 1, 16), leave(1, 1, 16), leave(1, 1, math.MinInt), join(1, 1, 256),
		request(1, 1, api.OpJoin, "k", 0, 4), request(1, 1, api.OpJoin, "", minusNought, 4), request(1, 1, api.OpLeave, "", 1, 1),
	}
	for kind := 1; kind <= 5; kind++ {
		list = append(list, request(1, 1, kind, "k", 0, 1))
	}
	for _, kind := range []int{-1, 0, 8, 9, 256, 257, math.MinInt, math.MaxInt} {
		list = append(list, request(1, 1, kind, "k", 0, 0), request(1, 1, kind, "", 0, 4))
	}
	return list
}

func TestRequestsThatAreNone(t *testing.T) {
	for _, r := range wrongRequests() {
		p := four(t)
		p.refuses(r, api.ErrArg)
		p.do(put(1, 1, "k", 2))
		p.do(api.Request{})
		p.refuses(r, api.ErrArg)
		p.do(api.Request{})
		p.do(api.Request{})
		// Full, and yet what is no request counts first.
		p.refuses(r, api.ErrArg)
		p.refuses(put(1, 2, "k", 2), api.ErrState)
		p.turn()
		p.refuses(r, api.ErrArg)
	}
}

// P12.1, P12.2: stamps.

func TestStampsOfOneClient(t *testing.T) {
	p := four(t)
	p.comes(put(1, 5, "k", 1), api.CodeOK, 1)
	p.comes(put(1, 4, "k", 2), api.CodeOld, 0)
	p.comes(put(1, 5, "k", 3), api.CodeOK, 1)
	p.comes(put(1, 1, "other", 3), api.CodeOld, 0)
	p.comes(get(1, 6, "k"), api.CodeOK, 1)
	p.comes(put(1, 5, "k", 4), api.CodeOld, 0)
	p.comes(join(1, 6, 4), api.CodeOK, 1)
	p.comes(cut(1, lastStamp, "k"), api.CodeOK, 1)
	p.comes(put(1, lastStamp, "k", 1), api.CodeOK, 1)
	p.comes(put(1, lastStamp-1, "k", 1), api.CodeOld, 0)
	if _, found := p.l.Get("k"); found || len(p.l.Next()) != 4 {
		t.Error("what came again took effect")
	}
}

// The first stamp of a client may be any; another client's counts for itself.
func TestStampsOfSeveralClients(t *testing.T) {
	p := four(t)
	for client := 1; client <= lastClient; client++ {
		p.comes(put(client, client*1000, "k", float64(client)), api.CodeOK, float64(client))
	}
	for client := 1; client <= lastClient; client++ {
		p.comes(put(client, client*1000-1, "k", 0), api.CodeOld, 0)
		p.comes(put(client, client*1000, "k", 0), api.CodeOK, float64(client))
		p.comes(get(client, client*1000+1, "k"), api.CodeOK, 8)
		p.comes(put(client, client*1000, "k", 0), api.CodeOld, 0)
	}
}

// What came to nothing is told again too, with its code.
func TestSameStampTellsEachCode(t *testing.T) {
	p := sixteen(t)
	for i, x := range []struct {
		r    api.Request
		code int
	}{
		{get(2, 1, "none"), api.CodeNone},
		{put(3, 1, "none", 1), api.CodeFull},
		{join(4, 1, 0), api.CodeSame},
		{leave(5, 1, 9), api.CodeAbsent},
		{leave(6, 1, 0), api.CodeFew},
	} {
		p.comes(x.r, x.code, 0)
		again := put(i+2, 1, keyOf(0), 77)
		p.comes(again, x.code, 0)
		p.comes(x.r, x.code, 0)
	}
}

// Whatever comes with a stamp that was, nothing but the slots changes, and what is told hangs on the stamp alone.
func TestNoStampTakesEffectTwice(t *testing.T) {
	ops := []api.Op{
		{Kind: api.OpPut, Key: "k", Real: 3},
		{Kind: api.OpPut, Key: "new", Real: 3},
		{Kind: api.OpAdd, Key: "k", Real: 3},
		{Kind: api.OpMax, Key: "k", Real: 30},
		{Kind: api.OpCut, Key: "k"},
		{Kind: api.OpGet, Key: "k"},
		{Kind: api.OpGet, Key: "none"},
		{Kind: api.OpJoin, ID: 4},
		{Kind: api.OpLeave, ID: 4},
		{Kind: api.OpJoin, ID: 0},
		{Kind: api.OpLeave, ID: 1},
	}
	for _, first := range ops {
		for _, again := range ops {
			p := pairOf(t, 0, 1, 2, 3, 5)
			p.do(put(7, 1, "k", 10))
			x, _ := p.do(api.Request{Client: 3, Stamp: 20, Op: first})
			parts := p.m.parts()
			for i, stamp := range []int{20, 19, 20, 1} {
				code, real := api.CodeOld, 0.0
				if stamp == 20 {
					code, real = x.Code, x.Real
				}
				if p.l.Full() {
					p.turn()
					parts[1] = p.m.parts()[1]
				}
				p.comes(api.Request{Client: 3, Stamp: stamp, Op: again}, code, real)
				parts[3] = longBytes(3 + i)
				if p.l.Text() != strings.Join(parts, "") {
					t.Fatalf("%+v with the stamp %d changed something behind %+v", again, stamp, first)
				}
			}
		}
	}
}

// The same operation asked anew, with a stamp of its own, takes effect anew.
func TestNewStampsTakeEffect(t *testing.T) {
	p := four(t)
	p.do(put(1, 1, "k", 0))
	for i := range 100 {
		p.comes(request(1+i%lastClient, 2+i/lastClient, api.OpAdd, "k", 1, 0), api.CodeOK, float64(i+1))
	}
}
