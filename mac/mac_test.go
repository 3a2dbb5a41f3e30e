package mac_test

import (
	"crypto/hmac"
	"crypto/sha256"
	"encoding/hex"
	"math"
	"slices"
	"strings"
	"testing"

	"witan/api"
	"witan/mac"
)

const (
	nodes   = 200
	maxList = 16
)

// text answers n bytes of all kinds, always the same ones.
func text(n int) string {
	bytes := make([]byte, n)
	x := uint32(20261117)
	for i := range bytes {
		x ^= x << 13
		x ^= x >> 17
		x ^= x << 5
		bytes[i] = byte(x >> 11)
	}
	return string(bytes)
}

func digest(text string) string {
	sum := sha256.Sum256([]byte(text))
	return string(sum[:])
}

// library is the MAC as Go's own library has it.
func library(key, text string) string {
	h := hmac.New(sha256.New, []byte(key))
	h.Write([]byte(text))
	return string(h.Sum(nil))
}

// model is the MAC as the chapter tells it, line by line.
func model(key, text string) string {
	if len(key) > 64 {
		key = digest(key)
	}
	key += strings.Repeat("\x00", 64-len(key))
	var inner, outer []byte
	for _, b := range []byte(key) {
		inner = append(inner, b^0x36)
		outer = append(outer, b^0x5c)
	}
	return digest(string(outer) + digest(string(inner)+text))
}

// modelKey is the key of a pair as the chapter tells it.
func modelKey(seed string, a, b int) string {
	if a > b {
		a, b = b, a
	}
	return digest(string(append([]byte(seed), byte(a), byte(b))))
}

// modelTag is a tag as the chapter tells it.
func modelTag(seed string, from, to int, text string) string {
	return library(modelKey(seed, from, to), string(append([]byte{byte(from)}, text...)))[:8]
}

// strangers are numbers that are no nodes, those among them whose low byte is that of a node.
func strangers() []int {
	return []int{-1, -2, -56, -100, -199, -200, -256, 200, 201, 255, 256, 257, 299, 512, 65536, 1 << 32, 1<<32 + 1, -1 << 32, math.MinInt, math.MinInt + 1, math.MaxInt - 1, math.MaxInt}
}

func seeds() []string {
	return []string{"", "s", "seed", "\x00", "\x01\x02", "\xff\xfe", text(62), text(64), text(200)}
}

func allNodes() []int {
	list := make([]int, nodes)
	for i := range list {
		list[i] = i
	}
	return list
}

func expectMac(t *testing.T, key, text string) {
	t.Helper()
	want := library(key, text)
	if got := mac.Mac(key, text); got != want {
		t.Fatalf("a key of %d, a text of %d bytes: %x, not %x", len(key), len(text), got, want)
	}
}

func expectVector(t *testing.T, seed string, from int, to []int, text string) {
	t.Helper()
	got, e := mac.Vector(seed, from, to, text)
	if e != api.OK || len(got) != len(to) {
		t.Fatalf("%q from %d to %v: %x, %d", seed, from, to, got, e)
	}
	for i, node := range to {
		if want := modelTag(seed, from, node, text); got[i] != want {
			t.Fatalf("%q from %d to %d: %x, not %x", seed, from, node, got[i], want)
		}
		if !mac.Check(seed, from, node, text, got[i]) {
			t.Fatalf("%q from %d to %d: its own tag isn't taken", seed, from, node)
		}
	}
}

func expectVectorRefused(t *testing.T, want api.Errno, from int, to []int) {
	t.Helper()
	for _, text := range []string{"", "hello"} {
		if got, e := mac.Vector("s", from, to, text); e != want || len(got) != 0 {
			t.Errorf("from %d to %v: %x, %d, not %d", from, to, got, e, want)
		}
	}
}

// The examples of RFC 4231, which has them for this digest, and some more that are known.
func TestMacOfKnownTexts(t *testing.T) {
	counted := make([]byte, 25)
	for i := range counted {
		counted[i] = byte(i + 1)
	}
	known := []struct{ key, text, mac string }{
		{strings.Repeat("\x0b", 20), "Hi There", "b0344c61d8db38535ca8afceaf0bf12b881dc200c9833da726e9376c2e32cff7"},
		{"Jefe", "what do ya want for nothing?", "5bdcc146bf60754e6a042426089575c75a003f089d2739839dec58b964ec3843"},
		{strings.Repeat("\xaa", 20), strings.Repeat("\xdd", 50), "773ea91e36800e46854db8ebd09181a72959098b3ef8c122d9635514ced565fe"},
		{string(counted), strings.Repeat("\xcd", 50), "82558a389a443c0ea4cc819899f2083a85f0faa3e578f8077a2e3ff46729665b"},
		{strings.Repeat("\x0c", 20), "Test With Truncation", "a3b6167473100ee06e0c796c2955552b"},
		{strings.Repeat("\xaa", 131), "Test Using Larger Than Block-Size Key - Hash Key First", "60e431591ee0b67f0d8a26aacbf5b77f8e0bc6213728c5140546040f0ee37f54"},
		{strings.Repeat("\xaa", 131), "This is a test using a larger than block-size key and a larger than block-size data. The key needs to be hashed before being used by the HMAC algorithm.", "9b09ffa71b942fcb27635fbcd5b0e944bfdc63644f0713938a7f51535c3a35e2"},
		{"", "", "b613679a0814d9ec772f95d778c35fc5ff1697c493715653c6c712144292c5ad"},
		{"key", "The quick brown fox jumps over the lazy dog", "f7bc83f430538424b13298e6aa6fb143ef4d59a14946175997479dbc2d1a3cd8"},
	}
	for _, k := range known {
		got := mac.Mac(k.key, k.text)
		if len(got) != 32 || !strings.HasPrefix(hex.EncodeToString([]byte(got)), k.mac) {
			t.Errorf("%q, %q: %x, not %s", k.key, k.text, got, k.mac)
		}
	}
}

// The keys and texts of RFC 2104's own examples, whose digest is another one.
func TestMacOfTheStandardsTexts(t *testing.T) {
	expectMac(t, strings.Repeat("\x0b", 16), "Hi There")
	expectMac(t, "Jefe", "what do ya want for nothing?")
	expectMac(t, strings.Repeat("\xaa", 16), strings.Repeat("\xdd", 50))
}

func TestMacOfEveryLength(t *testing.T) {
	whole := text(300)
	for n := range 200 {
		for _, m := range []int{0, 1, 31, 32, 55, 56, 63, 64, 65, 200} {
			expectMac(t, whole[:n], whole[300-m:])
			expectMac(t, whole[:m], whole[300-n:])
		}
	}
	for _, n := range []int{1000, 65535, 65536, 1 << 20} {
		expectMac(t, "key", text(n))
		expectMac(t, text(n), "text")
	}
}

func TestMacAsTheChapterTellsIt(t *testing.T) {
	for _, n := range []int{0, 1, 32, 63, 64, 65, 66, 128, 131, 1000} {
		for _, m := range []int{0, 1, 55, 56, 64, 65, 1000} {
			if got, want := mac.Mac(text(n), text(m)), model(text(n), text(m)); got != want {
				t.Errorf("%d, %d: %x, not %x", n, m, got, want)
			}
		}
	}
}

// A key of 64 bytes is itself, one of 65 is its digest; bytes 0 fill up what is shorter.
func TestMacAtTheKeysEdge(t *testing.T) {
	for _, said := range []string{"", "x", text(100)} {
		for _, n := range []int{65, 66, 128, 131, 1000} {
			if mac.Mac(text(n), said) != mac.Mac(digest(text(n)), said) {
				t.Errorf("a key of %d bytes isn't its digest", n)
			}
		}
		for _, n := range []int{0, 1, 33, 63, 64} {
			if mac.Mac(text(n), said) == mac.Mac(digest(text(n)), said) {
				t.Errorf("a key of %d bytes is its digest", n)
			}
		}
		for _, n := range []int{0, 1, 32, 63} {
			if mac.Mac(text(n), said) != mac.Mac(text(n)+strings.Repeat("\x00", 64-n), said) {
				t.Errorf("a key of %d bytes isn't filled up", n)
			}
		}
		if mac.Mac(text(64), said) == mac.Mac(text(64)+"\x00", said) || mac.Mac(text(63), said) == mac.Mac(text(64), said) {
			t.Error("a key's last byte doesn't count")
		}
	}
}

func TestMacTellsThemApart(t *testing.T) {
	seen := map[string]bool{}
	for _, key := range []string{"", "k", "ke", "key", text(64), text(65)} {
		for _, said := range []string{"", "\x00", "y", "ey", "text", text(64)} {
			seen[mac.Mac(key, said)] = true
		}
	}
	if len(seen) != 36 {
		t.Errorf("%d of 36 MACs", len(seen))
	}
}

func TestPair(t *testing.T) {
	for _, seed := range []string{"", "s", text(200)} {
		for _, a := range allNodes() {
			for _, b := range allNodes() {
				if got, e := mac.Pair(seed, a, b); e != api.OK || got != modelKey(seed, a, b) {
					t.Fatalf("%q, %d, %d: %x, %d", seed, a, b, got, e)
				}
			}
		}
	}
	for _, seed := range seeds() {
		for _, p := range [][2]int{{0, 0}, {0, 199}, {199, 0}, {199, 199}, {127, 128}, {199, 1}} {
			if got, e := mac.Pair(seed, p[0], p[1]); e != api.OK || got != modelKey(seed, p[0], p[1]) {
				t.Errorf("%q, %v: %x, %d", seed, p, got, e)
			}
		}
	}
}

func TestPairWrittenOut(t *testing.T) {
	pairs := []struct {
		a, b int
		text string
	}{
		{3, 7, "s\x03\x07"}, {7, 3, "s\x03\x07"}, {0, 0, "s\x00\x00"}, {199, 0, "s\x00\xc7"}, {199, 199, "s\xc7\xc7"}, {128, 101, "s\x65\x80"},
	}
	for _, p := range pairs {
		if got, e := mac.Pair("s", p.a, p.b); e != api.OK || got != digest(p.text) {
			t.Errorf("%d, %d: %x, %d", p.a, p.b, got, e)
		}
	}
}

// Whoever is told first, the key is one; no other pair has it, and no other seed.
func TestPairEitherWayRound(t *testing.T) {
	seen := map[string][2]int{}
	for _, a := range allNodes() {
		for b := range a + 1 {
			key, e := mac.Pair("s", a, b)
			turned, f := mac.Pair("s", b, a)
			if e != api.OK || f != api.OK || key != turned || len(key) != 32 {
				t.Fatalf("%d, %d: %x, %d; %x, %d", a, b, key, e, turned, f)
			}
			if other, ok := seen[key]; ok {
				t.Fatalf("%d, %d and %v have one key", a, b, other)
			}
			seen[key] = [2]int{a, b}
		}
	}
	if key, _ := mac.Pair("t", 3, 7); key == "" {
		t.Error("no key")
	} else if pair, ok := seen[key]; ok {
		t.Errorf("the seed doesn't count: %v", pair)
	}
}

func TestPairRefused(t *testing.T) {
	for _, stranger := range strangers() {
		others := append(strangers(), 0, 1, 100, 199, stranger)
		for _, other := range others {
			for _, p := range [][2]int{{stranger, other}, {other, stranger}} {
				if key, e := mac.Pair("s", p[0], p[1]); e != api.ErrArg || key != "" {
					t.Errorf("%v: %x, %d", p, key, e)
				}
			}
		}
	}
}

func TestVector(t *testing.T) {
	lists := [][]int{{0}, {199}, {2, 3}, {3, 2}, {0, 1, 2, 3}, {101, 108, 0, 15}, {5, 5}, {7, 1, 7, 7, 1}, allNodes()[:maxList], allNodes()[nodes-maxList:], slices.Repeat([]int{199}, maxList)}
	for _, seed := range seeds() {
		for _, from := range []int{0, 1, 3, 5, 15, 101, 127, 128, 199} {
			for _, to := range lists {
				for _, said := range []string{"", "hello", text(63), text(64), text(500)} {
					expectVector(t, seed, from, to, said)
				}
			}
		}
	}
}

func TestVectorOfEveryPair(t *testing.T) {
	for _, from := range allNodes() {
		for to := range slices.Chunk(allNodes(), maxList) {
			expectVector(t, "seed", from, to, "hello")
		}
	}
}

func TestVectorToNobody(t *testing.T) {
	for _, to := range [][]int{nil, {}} {
		for _, from := range []int{0, 100, 199} {
			if tags, e := mac.Vector("s", from, to, "hello"); e != api.OK || len(tags) != 0 {
				t.Errorf("%d: %x, %d", from, tags, e)
			}
		}
	}
}

// One node twice gets one tag twice.
func TestVectorToOneTwice(t *testing.T) {
	tags, e := mac.Vector("s", 1, []int{4, 9, 4}, "hello")
	if e != api.OK || len(tags) != 3 || tags[0] != tags[2] || tags[0] == tags[1] {
		t.Errorf("%x, %d", tags, e)
	}
}

func TestVectorOfStrangers(t *testing.T) {
	for _, stranger := range strangers() {
		for _, to := range [][]int{nil, {0}, {1, 2}, {stranger}, allNodes()[:maxList]} {
			expectVectorRefused(t, api.ErrArg, stranger, to)
		}
		expectVectorRefused(t, api.ErrArg, 1, []int{stranger})
		for _, n := range []int{2, 3, maxList} {
			for place := range n {
				to := slices.Clone(allNodes()[:n])
				to[place] = stranger
				expectVectorRefused(t, api.ErrArg, 1, to)
			}
		}
	}
}

func TestVectorTooLong(t *testing.T) {
	for _, n := range []int{maxList + 1, maxList + 2, 2 * maxList, nodes} {
		for _, from := range []int{0, 199} {
			expectVectorRefused(t, api.ErrLong, from, allNodes()[:n])
			expectVectorRefused(t, api.ErrLong, from, make([]int, n))
		}
	}
	expectVectorRefused(t, api.ErrLong, 0, make([]int, 100000))
}

// That one is no node counts ahead of the list's length, wherever it stands.
func TestVectorTooLongAndOfStrangers(t *testing.T) {
	for _, stranger := range strangers() {
		for _, n := range []int{maxList + 1, maxList + 2, 100} {
			expectVectorRefused(t, api.ErrArg, stranger, allNodes()[:n])
			for place := range n {
				to := slices.Clone(allNodes()[:n])
				to[place] = stranger
				expectVectorRefused(t, api.ErrArg, 1, to)
			}
		}
	}
}

// What was handed in stays as it was, and what was answered is the caller's own.
func TestVectorMemory(t *testing.T) {
	to := append(make([]int, 0, 8), 9, 2, 9, 5)
	first, _ := mac.Vector("s", 1, to, "hello")
	kept := slices.Clone(first)
	if !slices.Equal(to[:8], []int{9, 2, 9, 5, 0, 0, 0, 0}) {
		t.Error(to[:8])
	}
	for i := range to {
		to[i] = 0
	}
	second, _ := mac.Vector("s", 1, []int{9, 2, 9, 5}, "hello")
	for i := range first {
		first[i] = ""
	}
	third, _ := mac.Vector("s", 1, []int{9, 2, 9, 5}, "hello")
	if !slices.Equal(second, kept) || !slices.Equal(third, kept) {
		t.Errorf("%x, %x, not %x", second, third, kept)
	}
}

// A tag written out from the chapter's words: the sender's byte stands ahead of the text, and nothing else does.
func TestTagWrittenOut(t *testing.T) {
	want := library(digest("s\x65\xc7"), "\xc7hello")[:8]
	if tags, e := mac.Vector("s", 199, []int{101}, "hello"); e != api.OK || tags[0] != want {
		t.Errorf("%x, %d, not %x", tags, e, want)
	}
	if !mac.Check("s", 199, 101, "hello", want) {
		t.Error("not taken")
	}
}

func TestCheck(t *testing.T) {
	for _, seed := range seeds() {
		for _, p := range [][2]int{{0, 199}, {199, 0}, {1, 3}, {0, 0}, {199, 199}, {101, 15}, {127, 128}} {
			for _, said := range []string{"", "hello", text(64), text(1000)} {
				if !mac.Check(seed, p[0], p[1], said, modelTag(seed, p[0], p[1], said)) {
					t.Errorf("%q, %v, %d bytes: not taken", seed, p, len(said))
				}
			}
		}
	}
}

// The tag from 1 to 3 is taken from no other, by no other, with no other text and no other seed.
func TestCheckOfAnothersTag(t *testing.T) {
	tag := modelTag("s", 1, 3, "hello")
	for _, from := range allNodes() {
		for _, to := range allNodes() {
			if got := mac.Check("s", from, to, "hello", tag); got != (from == 1 && to == 3) {
				t.Fatalf("from %d to %d: %v", from, to, got)
			}
		}
	}
	for _, said := range []string{"", "hell", "hello\x00", "\x00hello", "\x01hello", "Hello", "hellp"} {
		if mac.Check("s", 1, 3, said, tag) {
			t.Errorf("with the text %q", said)
		}
	}
	for _, seed := range []string{"", "t", "S", "ss", "s\x00", "s\x01"} {
		if mac.Check(seed, 1, 3, "hello", tag) {
			t.Errorf("with the seed %q", seed)
		}
	}
}

// A pair of one node with itself, and a tag sent back to its sender.
func TestCheckOfOneselfAndBack(t *testing.T) {
	own := modelTag("s", 5, 5, "hello")
	if !mac.Check("s", 5, 5, "hello", own) || mac.Check("s", 5, 6, "hello", own) || mac.Check("s", 6, 5, "hello", own) {
		t.Error("a tag to oneself")
	}
	there := modelTag("s", 5, 6, "hello")
	if !mac.Check("s", 5, 6, "hello", there) || mac.Check("s", 6, 5, "hello", there) {
		t.Error("a tag sent back")
	}
}

func TestCheckOfWrongTags(t *testing.T) {
	whole := library(modelKey("s", 1, 3), "\x01hello")
	tag := whole[:8]
	if !mac.Check("s", 1, 3, "hello", tag) {
		t.Fatal("the right one isn't taken")
	}
	for n := range len(whole) + 1 {
		if got := mac.Check("s", 1, 3, "hello", whole[:n]); got != (n == 8) {
			t.Errorf("the first %d bytes: %v", n, got)
		}
	}
	for _, wrong := range []string{"", "\x00", tag + "\x00", "\x00" + tag, tag + tag, tag[1:], strings.Repeat("\x00", 8), strings.Repeat("\xff", 8), text(1000)} {
		if mac.Check("s", 1, 3, "hello", wrong) {
			t.Errorf("%x is taken", wrong)
		}
	}
	for bit := range 64 {
		changed := []byte(tag)
		changed[bit/8] ^= 1 << (bit % 8)
		if mac.Check("s", 1, 3, "hello", string(changed)) {
			t.Errorf("with bit %d changed", bit)
		}
	}
}

// No tag is taken from or by what is no node: not the empty one, and not that of the node with the same byte.
func TestCheckOfStrangers(t *testing.T) {
	for _, stranger := range strangers() {
		for _, other := range append(strangers(), 0, 3, 199, stranger) {
			for _, p := range [][2]int{{stranger, other}, {other, stranger}} {
				tags := []string{"", strings.Repeat("\x00", 8), modelTag("s", p[0], p[1], "hello"), modelTag("s", p[0]&255, p[1]&255, "hello")}
				for _, tag := range tags {
					if mac.Check("s", p[0], p[1], "hello", tag) {
						t.Errorf("%v: %x is taken", p, tag)
					}
				}
			}
		}
	}
}

func FuzzMac(f *testing.F) {
	f.Add("", "", "", 0, 0, "")
	f.Add("key", "seed", "text", 1, 199, "12345678")
	f.Add(text(65), text(64), text(63), 200, -1, text(8))
	f.Fuzz(func(t *testing.T, key, seed, said string, a, b int, tag string) {
		expectMac(t, key, said)
		right := a >= 0 && a < nodes && b >= 0 && b < nodes
		if !right {
			if got, e := mac.Pair(seed, a, b); e != api.ErrArg || got != "" {
				t.Errorf("%d, %d: %x, %d", a, b, got, e)
			}
			if got, e := mac.Vector(seed, a, []int{b}, said); e != api.ErrArg || len(got) != 0 {
				t.Errorf("%d, %d: %x, %d", a, b, got, e)
			}
		} else {
			if got, e := mac.Pair(seed, a, b); e != api.OK || got != modelKey(seed, a, b) {
				t.Errorf("%d, %d: %x, %d", a, b, got, e)
			}
			expectVector(t, seed, a, []int{b, a, b}, said)
		}
		if got := mac.Check(seed, a, b, said, tag); got != (right && tag == modelTag(seed, a, b, said)) {
			t.Errorf("%d, %d, %x: %v", a, b, tag, got)
		}
	})
}
