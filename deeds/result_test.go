package deeds_test

import (
	"encoding/binary"
	"math"
	"math/rand"
	"strings"
	"testing"

	"witan/api"
	"witan/deeds"
)

// P11.1: results, and their texts.

func TestResultsWrittenOut(t *testing.T) {
	for want, x := range map[string]api.Result{
		"\x00\x00\x00\x00\x00\x00\x00\x00\x00": {},
		"\x00\x3f\xf8\x00\x00\x00\x00\x00\x00": {Real: 1.5},
		"\x01\x00\x00\x00\x00\x00\x00\x00\x00": {Code: api.CodeNone},
		"\x07\x80\x00\x00\x00\x00\x00\x00\x00": {Code: api.CodeOld, Real: minusNought},
		"\x08\x7f\xf8\x00\x00\x00\x00\x00\x00": {Code: api.CodeNull, Real: math.Float64frombits(0xffffffffffffffff)},
		"\x02\xff\xf0\x00\x00\x00\x00\x00\x00": {Code: api.CodeFull, Real: math.Inf(-1)},
	} {
		if s, e := deeds.ResultText(x); s != want || e != api.OK {
			t.Errorf("%+v: %q %d, not %q", x, s, e, want)
		}
		expectResult(t, x)
		expectReadResult(t, want)
	}
}

// Each code with each real: any real is right, whatever the code.
func TestEveryCodeAndReal(t *testing.T) {
	codes := []int{-256, -248, 255, 256, 257, 264, 1 << 32, math.MinInt, math.MaxInt}
	for code := -3; code <= 20; code++ {
		codes = append(codes, code)
	}
	for _, code := range codes {
		for _, x := range edgeReals() {
			s, e := deeds.ResultText(api.Result{Code: code, Real: x})
			if right := code >= 0 && code <= 8; right != (e == api.OK) || !right && (s != "" || e != api.ErrArg) {
				t.Errorf("code %d: %q %d", code, s, e)
			}
			expectResult(t, api.Result{Code: code, Real: x})
		}
	}
}

func TestReadResultOfWrongTexts(t *testing.T) {
	expectNone := func(text string) {
		t.Helper()
		if x, e := deeds.ReadResult(text); !sameResultBits(x, api.Result{}) || e != api.ErrBytes {
			t.Errorf("%.40q of %d: %+v %d", text, len(text), x, e)
		}
	}
	for code := range 9 {
		s, _ := deeds.ResultText(api.Result{Code: code, Real: -2.5})
		for n := range len(s) {
			expectNone(s[:n])
		}
		for b := range 256 {
			expectNone(s + string([]byte{byte(b)}))
		}
		expectNone(s + s)
		expectNone(s + strings.Repeat("\x00", 1<<20))
	}
	for code := 9; code < 256; code++ {
		expectNone(string([]byte{byte(code)}) + strings.Repeat("\x00", 8))
	}
	for _, n := range edgeBits() {
		s := string(binary.BigEndian.AppendUint64([]byte{3}, n))
		if n != oneNaN && n&^(1<<63) > 0x7FF0000000000000 {
			expectNone(s)
		} else if x, e := deeds.ReadResult(s); e != api.OK || x.Code != 3 || math.Float64bits(x.Real) != n {
			t.Errorf("%x: %+v %d", n, x, e)
		}
	}
}

// Each byte of a result's text changed to each other one, and texts by chance.
func TestReadResultOfManyTexts(t *testing.T) {
	for _, x := range []api.Result{{}, {Code: 8, Real: math.NaN()}, {Code: 4, Real: math.Inf(-1)}, {Code: 1, Real: 0.1}} {
		s, _ := deeds.ResultText(x)
		for place := range len(s) {
			for b := range 256 {
				other := []byte(s)
				other[place] = byte(b)
				expectReadResult(t, string(other))
			}
		}
	}
	roll := rand.New(rand.NewSource(5))
	for range 20000 {
		s := make([]byte, 7+roll.Intn(4))
		roll.Read(s)
		s[0] %= 11
		expectReadResult(t, string(s))
	}
}

// Results that differ have unlike texts, and the same ones have one.
func TestUnlikeResults(t *testing.T) {
	type plainResult struct {
		code int
		bits uint64
	}
	byText := map[string]plainResult{}
	for code := range 9 {
		for _, x := range edgeReals() {
			s, _ := deeds.ResultText(api.Result{Code: code, Real: x})
			p := plainResult{code, modelBits(x)}
			if other, known := byText[s]; known && other != p {
				t.Errorf("%+v and %+v have one text", other, p)
			}
			byText[s] = p
		}
	}
}
