package sha_test

import (
	"crypto/sha256"
	"encoding/binary"
	"encoding/hex"
	"math"
	"math/big"
	"slices"
	"strings"
	"testing"

	"witan/api"
	"witan/sha"
)

const most = 1 << 32

// library is the digest as Go's own library has it.
func library(text string) string {
	sum := sha256.Sum256([]byte(text))
	return string(sum[:])
}

// text answers n bytes of all kinds, always the same ones.
func text(n int) string {
	bytes := make([]byte, n)
	x := uint32(20261117)
	for i := range bytes {
		x ^= x << 13
		x ^= x >> 17
		x ^= x << 5
		bytes[i] = byte(x >> 11)
	}
	return string(bytes)
}

func expectSum(t *testing.T, want string, parts ...string) {
	t.Helper()
	if got := sha.Sum(parts...); got != want {
		t.Fatalf("%d parts, %d bytes: %x, not %x", len(parts), len(strings.Join(parts, "")), got, want)
	}
}

// The standard's own examples, and some more that are known.
func TestSumOfKnownTexts(t *testing.T) {
	known := []struct{ text, digest string }{
		{"", "e3b0c44298fc1c149afbf4c8996fb92427ae41e4649b934ca495991b7852b855"},
		{"a", "ca978112ca1bbdcafac231b39a23dc4da786eff8147c4e72b9807785afee48bb"},
		{"abc", "ba7816bf8f01cfea414140de5dae2223b00361a396177a9cb410ff61f20015ad"},
		{"abcdbcdecdefdefgefghfghighijhijkijkljklmklmnlmnomnopnopq", "248d6a61d20638b8e5c026930c3e6039a33ce45964ff2167f6ecedd419db06c1"},
		{"abcdefghbcdefghicdefghijdefghijkefghijklfghijklmghijklmnhijklmnoijklmnopjklmnopqklmnopqrlmnopqrsmnopqrstnopqrstu", "cf5b16a778af8380036ce59e7b0492370b249b11e8f07a51afac45037afee9d1"},
		{"The quick brown fox jumps over the lazy dog", "d7a8fbb307d7809469ca9abcb0082e4f8d5651e46d3cdb762d02d0bf37c9e592"},
		{strings.Repeat("a", 1000000), "cdc76e5c9914fb9281a1c7e284d73e67f1809a48a497200e046d39ccc7112cd0"},
	}
	for _, k := range known {
		want, err := hex.DecodeString(k.digest)
		if err != nil {
			t.Fatal(err)
		}
		expectSum(t, string(want), k.text)
	}
}

func TestSumOfEveryLength(t *testing.T) {
	for n := range 1100 {
		expectSum(t, library(text(n)), text(n))
	}
	for _, n := range []int{55, 56, 63, 64, 65, 119, 120, 128, 4095, 4096, 65535, 65536, 65537} {
		expectSum(t, library(strings.Repeat("\x00", n)), strings.Repeat("\x00", n))
		expectSum(t, library(strings.Repeat("\xff", n)), strings.Repeat("\xff", n))
	}
}

func TestSumOfEveryBit(t *testing.T) {
	for place := range 8 * 130 {
		bytes := make([]byte, 130)
		bytes[place/8] = 1 << (place % 8)
		expectSum(t, library(string(bytes)), string(bytes))
	}
}

func TestSumOfNothing(t *testing.T) {
	want := library("")
	expectSum(t, want)
	expectSum(t, want, []string(nil)...)
	expectSum(t, want, []string{}...)
	expectSum(t, want, "")
	expectSum(t, want, "", "", "")
}

// The text's length in bits needs more than 32 of them here.
func TestSumOfLongText(t *testing.T) {
	if testing.Short() {
		t.Skip("half a gigabyte")
	}
	part := text(1 << 20)
	parts := append(slices.Repeat([]string{part}, 1<<9), "witan")
	model := sha256.New()
	for _, p := range parts {
		model.Write([]byte(p))
	}
	if got, want := sha.Sum(parts...), string(model.Sum(nil)); got != want {
		t.Errorf("%x, not %x", got, want)
	}
}

func TestSumWhereverCut(t *testing.T) {
	for n := range 200 {
		whole := text(n)
		want := library(whole)
		for i := range n + 1 {
			expectSum(t, want, whole[:i], whole[i:])
		}
	}
	for _, n := range []int{55, 56, 64, 65, 119, 120, 129} {
		whole := text(n)
		want := library(whole)
		for i := range n + 1 {
			for j := i; j <= n; j++ {
				expectSum(t, want, whole[:i], whole[i:j], whole[j:])
			}
		}
	}
}

func TestSumInEqualPieces(t *testing.T) {
	whole := text(1000)
	want := library(whole)
	for size := 1; size <= len(whole); size++ {
		var pieces, loose []string
		for piece := range slices.Chunk([]byte(whole), size) {
			pieces = append(pieces, string(piece))
			loose = append(loose, "", string(piece), "")
		}
		expectSum(t, want, pieces...)
		expectSum(t, want, loose...)
	}
}

func TestSumOfManyParts(t *testing.T) {
	expectSum(t, library(strings.Repeat("ab", 70000)), slices.Repeat([]string{"a", "b"}, 70000)...)
	expectSum(t, library(""), make([]string, 70000)...)
}

// Neighbouring texts and other orders have other digests: nothing but the parts put together counts, and all of them.
func TestSumTellsTextsApart(t *testing.T) {
	seen := map[string]string{}
	for _, s := range []string{"", "\x00", "\x00\x00", "a", "b", "ab", "ba", "a\x00", "\x00a", "\x80", "a\x80", text(64), text(64) + "\x80", text(64) + "\x00"} {
		sum := sha.Sum(s)
		if len(sum) != 32 {
			t.Errorf("%q: %d bytes", s, len(sum))
		}
		if other, ok := seen[sum]; ok {
			t.Errorf("%q and %q have one digest", s, other)
		}
		seen[sum] = s
	}
	if sha.Sum("a", "b") == sha.Sum("b", "a") {
		t.Error("the parts' order doesn't count")
	}
}

func TestSumLeavesItsParts(t *testing.T) {
	parts := []string{"a", "", text(70), "b"}
	before := slices.Clone(parts)
	spare := append(make([]string, 0, 8), parts...)
	first := sha.Sum(spare...)
	if !slices.Equal(spare, before) || !slices.Equal(spare[:8][4:], make([]string, 4)) {
		t.Errorf("%q", spare[:8])
	}
	for range 3 {
		expectSum(t, first, parts...)
	}
}

// The text and what Pad answers are blocks, so the digest of both together is that of a longer text: no padding of Sum's own goes missing.
func TestSumOfPaddedText(t *testing.T) {
	for n := range 200 {
		pad, _ := sha.Pad(n)
		expectSum(t, library(text(n)+pad), text(n), pad)
	}
}

// root answers the first 32 bits of the fractional part of the prime's root of that degree: root^degree <= prime * 2^(32 degree).
func root(prime, degree int64) uint32 {
	power := new(big.Int).Exp(big.NewInt(1<<32), big.NewInt(degree), nil)
	power.Mul(power, big.NewInt(prime))
	found := new(big.Int)
	for bit := 40; bit >= 0; bit-- {
		next := new(big.Int).SetBit(found, bit, 1)
		if new(big.Int).Exp(next, big.NewInt(degree), nil).Cmp(power) <= 0 {
			found = next
		}
	}
	return uint32(found.Uint64())
}

func primes(count int) []int64 {
	var all []int64
	for n := int64(2); len(all) < count; n++ {
		if !slices.ContainsFunc(all, func(p int64) bool { return n%p == 0 }) {
			all = append(all, n)
		}
	}
	return all
}

func turned(x uint32, n int) uint32 { return x>>n | x<<(32-n) }

// model is the chapter's text, line by line, with its constants worked out from their rule.
func model(text string) string {
	bits := uint64(8 * len(text))
	bytes := append([]byte(text), 128)
	for (len(bytes)+8)%64 != 0 {
		bytes = append(bytes, 0)
	}
	bytes = binary.BigEndian.AppendUint64(bytes, bits)
	var k [64]uint32
	for i, p := range primes(64) {
		k[i] = root(p, 3)
	}
	var hash [8]uint32
	for i, p := range primes(8) {
		hash[i] = root(p, 2)
	}
	for block := range slices.Chunk(bytes, 64) {
		var w [64]uint32
		for t := range 64 {
			if t < 16 {
				w[t] = binary.BigEndian.Uint32(block[4*t:])
				continue
			}
			s0 := turned(w[t-15], 7) ^ turned(w[t-15], 18) ^ w[t-15]>>3
			s1 := turned(w[t-2], 17) ^ turned(w[t-2], 19) ^ w[t-2]>>10
			w[t] = s1 + w[t-7] + s0 + w[t-16]
		}
		r := hash
		for t := range 64 {
			s1 := turned(r[4], 6) ^ turned(r[4], 11) ^ turned(r[4], 25)
			u := r[7] + s1 + (r[4]&r[5] | ^r[4]&r[6]) + k[t] + w[t]
			s0 := turned(r[0], 2) ^ turned(r[0], 13) ^ turned(r[0], 22)
			v := s0 + (r[0]&r[1] | r[0]&r[2] | r[1]&r[2])
			r = [8]uint32{u + v, r[0], r[1], r[2], r[3] + u, r[4], r[5], r[6]}
		}
		for i := range hash {
			hash[i] += r[i]
		}
	}
	var out []byte
	for _, x := range hash {
		out = binary.BigEndian.AppendUint32(out, x)
	}
	return string(out)
}

func TestSumAsTheChapterTellsIt(t *testing.T) {
	if p := primes(64); p[0] != 2 || p[63] != 311 {
		t.Fatal(p)
	}
	for _, n := range []int{0, 1, 3, 55, 56, 63, 64, 65, 119, 120, 127, 128, 1000} {
		expectSum(t, model(text(n)), text(n))
	}
}

// expectPad holds a padding against its description.
func expectPad(t *testing.T, n int) {
	t.Helper()
	pad, ok := sha.Pad(n)
	if !ok {
		t.Fatalf("%d: no padding", n)
	}
	if len(pad) < 9 || len(pad) > 72 || (n+len(pad))%64 != 0 {
		t.Fatalf("%d: a padding of %d bytes", n, len(pad))
	}
	zeros := 0
	for (n+1+zeros+8)%64 != 0 {
		zeros++
	}
	want := "\x80" + strings.Repeat("\x00", zeros) + string(binary.BigEndian.AppendUint64(nil, 8*uint64(n)))
	if pad != want {
		t.Fatalf("%d: %x, not %x", n, pad, want)
	}
}

func TestPad(t *testing.T) {
	for n := range 5000 {
		expectPad(t, n)
	}
	for shift := range 33 {
		for away := -130; away <= 130; away++ {
			if n := 1<<shift + away; n >= 0 && n <= most {
				expectPad(t, n)
			}
		}
	}
}

func TestPadWrittenOut(t *testing.T) {
	paddings := []struct {
		n    int
		want string
	}{
		{0, "\x80" + strings.Repeat("\x00", 63)},
		{3, "\x80" + strings.Repeat("\x00", 59) + "\x18"},
		{55, "\x80" + "\x00\x00\x00\x00\x00\x00\x01\xb8"},
		{56, "\x80" + strings.Repeat("\x00", 63) + "\x00\x00\x00\x00\x00\x00\x01\xc0"},
		{63, "\x80" + strings.Repeat("\x00", 56) + "\x00\x00\x00\x00\x00\x00\x01\xf8"},
		{64, "\x80" + strings.Repeat("\x00", 55) + "\x00\x00\x00\x00\x00\x00\x02\x00"},
		{most - 1, "\x80" + strings.Repeat("\x00", 56) + "\x00\x00\x00\x07\xff\xff\xff\xf8"},
		{most, "\x80" + strings.Repeat("\x00", 55) + "\x00\x00\x00\x08\x00\x00\x00\x00"},
	}
	for _, p := range paddings {
		if got, ok := sha.Pad(p.n); !ok || got != p.want {
			t.Errorf("%d: %x, not %x", p.n, got, p.want)
		}
	}
}

func TestPadRefused(t *testing.T) {
	for _, n := range []int{-1, -2, -9, -56, -64, -most, most + 1, most + 2, most + 55, most + 64, 2 * most, 1 << 61, 1 << 62, math.MinInt, math.MinInt + 1, math.MaxInt - 1, math.MaxInt} {
		if pad, ok := sha.Pad(n); ok || pad != "" {
			t.Errorf("%d: %x, %v", n, pad, ok)
		}
	}
}

func TestPart(t *testing.T) {
	rows := [][]string{nil, {""}, {"abc"}, {"a", "", "bc"}, {text(56), text(8)}, {text(200)}}
	for _, parts := range rows {
		whole := library(strings.Join(parts, ""))
		for n := 0; n <= 32; n++ {
			if got, e := sha.Part(n, parts...); e != api.OK || got != whole[:n] {
				t.Errorf("%d of %q: %x, %d", n, parts, got, e)
			}
		}
	}
}

func TestPartRefused(t *testing.T) {
	for _, n := range []int{-1, -2, -32, 33, 34, 64, 256, most, most + 1, math.MinInt, math.MaxInt} {
		for _, parts := range [][]string{nil, {"abc"}, {"a", text(100)}} {
			if got, e := sha.Part(n, parts...); e != api.ErrArg || got != "" {
				t.Errorf("%d of %q: %x, %d", n, parts, got, e)
			}
		}
	}
}

func FuzzSum(f *testing.F) {
	f.Add("", "", "", 0)
	f.Add("a", "b", "c", 32)
	f.Add(text(55), "", text(9), 33)
	f.Add(text(64), text(56), text(119), -1)
	f.Fuzz(func(t *testing.T, a, b, c string, n int) {
		want := library(a + b + c)
		expectSum(t, want, a, b, c)
		expectSum(t, want, a+b, c)
		part, e := sha.Part(n, a, b, c)
		if n < 0 || n > 32 {
			if part != "" || e != api.ErrArg {
				t.Errorf("%d: %x, %d", n, part, e)
			}
		} else if part != want[:n] || e != api.OK {
			t.Errorf("%d: %x, %d", n, part, e)
		}
		if n >= 0 && n <= most {
			expectPad(t, n)
		} else if pad, ok := sha.Pad(n); ok || pad != "" {
			t.Errorf("%d: %x, %v", n, pad, ok)
		}
	})
}
