package onetime_test

import (
	"crypto/sha256"
	"encoding/hex"
	"math"
	"slices"
	"strconv"
	"strings"
	"testing"

	"witan/api"
	"witan/onetime"
)

const (
	chains   = 35
	sigSize  = 560
	greatest = 15
)

// text answers n bytes of all kinds, always the same ones.
func text(n int) string {
	bytes := make([]byte, n)
	x := uint32(20261117)
	for i := range bytes {
		x ^= x << 13
		x ^= x >> 17
		x ^= x << 5
		bytes[i] = byte(x >> 11)
	}
	return string(bytes)
}

// digest is the digest as Go's own library has it.
func digest(text string) string {
	sum := sha256.Sum256([]byte(text))
	return string(sum[:])
}

func modelDigits(text string) []int {
	var digits []int
	for _, half := range hex.EncodeToString([]byte(digest(text)[:16])) {
		digit, _ := strconv.ParseInt(string(half), 16, 64)
		digits = append(digits, int(digit))
	}
	lack := 0
	for _, digit := range digits {
		lack += greatest - digit
	}
	return append(digits, lack/256, lack%256/16, lack%16)
}

func modelStep(x string, n int) string {
	if n <= 0 {
		return x
	}
	return modelStep(digest(x)[:16], min(n, greatest)-1)
}

// modelChain answers the sixteen places of a chain, from where it begins to its end.
func modelChain(seed string, leaf, chain int) []string {
	x := digest(string(append([]byte(seed), byte(leaf), byte(chain))))[:16]
	places := []string{x}
	for range greatest {
		x = digest(x)[:16]
		places = append(places, x)
	}
	return places
}

func modelPublic(seed string, leaf int) string {
	var ends string
	for chain := range chains {
		ends += modelChain(seed, leaf, chain)[greatest]
	}
	return digest(ends)
}

func modelSign(seed string, leaf int, text string) string {
	var sig string
	for chain, digit := range modelDigits(text) {
		sig += modelChain(seed, leaf, chain)[digit]
	}
	return sig
}

func modelRecover(text, sig string) (string, bool) {
	if len(sig) != sigSize {
		return "", false
	}
	var ends string
	for chain, digit := range modelDigits(text) {
		ends += modelStep(sig[16*chain:16*chain+16], greatest-digit)
	}
	return digest(ends), true
}

func seeds() []string {
	return []string{"", "s", "seed", "\x00", "\x00\x00", "\xff\xfe", "\xc3\xa9", text(62), text(64), text(200)}
}

// texts have digits of all kinds: what the first ones lack is 114, 239, 240, 255, 256, 271, 272, 367 of those that are numbers.
func texts() []string {
	return []string{"", "a", "abc", "hello", "\x00", "\xff\xfe", text(63), text(64), text(1000), "1569985", "127", "23", "25", "234", "242", "378", "1670800"}
}

func goodLeaves() []int { return []int{0, 1, 3, 127, 128, 200, 254, 255} }

// strangers are numbers that are no leaves, those among them whose low byte is that of one.
func strangers() []int {
	return []int{-1, -2, -128, -255, -256, -257, 256, 257, 259, 511, 512, 65536, 1 << 32, 1<<32 + 3, -1 << 32, math.MinInt, math.MinInt + 1, math.MaxInt - 1, math.MaxInt}
}

func expectPublic(t *testing.T, seed string, leaf int) string {
	t.Helper()
	key, e := onetime.Public(seed, leaf)
	if want := modelPublic(seed, leaf); e != api.OK || key != want {
		t.Fatalf("%q, %d: %x, %d, not %x", seed, leaf, key, e, want)
	}
	return key
}

func expectSign(t *testing.T, seed string, leaf int, text string) string {
	t.Helper()
	sig, e := onetime.Sign(seed, leaf, text)
	if want := modelSign(seed, leaf, text); e != api.OK || sig != want {
		t.Fatalf("%q, %d, %q: %x, %d, not %x", seed, leaf, text, sig, e, want)
	}
	return sig
}

func expectRecover(t *testing.T, text, sig string) {
	t.Helper()
	key, ok := onetime.Recover(text, sig)
	if want, right := modelRecover(text, sig); ok != right || key != want {
		t.Fatalf("%q, %d bytes: %x, %v, not %x, %v", text, len(sig), key, ok, want, right)
	}
}

func TestDigitsWrittenOut(t *testing.T) {
	known := []struct {
		text   string
		digits []int
	}{
		{"abc", []int{11, 10, 7, 8, 1, 6, 11, 15, 8, 15, 0, 1, 12, 15, 14, 10, 4, 1, 4, 1, 4, 0, 13, 14, 5, 13, 10, 14, 2, 2, 2, 3, 0, 15, 4}},
		{"", []int{14, 3, 11, 0, 12, 4, 4, 2, 9, 8, 15, 12, 1, 12, 1, 4, 9, 10, 15, 11, 15, 4, 12, 8, 9, 9, 6, 15, 11, 9, 2, 4, 0, 13, 11}},
		{"hello", []int{2, 12, 15, 2, 4, 13, 11, 10, 5, 15, 11, 0, 10, 3, 0, 14, 2, 6, 14, 8, 3, 11, 2, 10, 12, 5, 11, 9, 14, 2, 9, 14, 0, 13, 13}},
	}
	for _, k := range known {
		if got := onetime.Digits(k.text); !slices.Equal(got, k.digits) {
			t.Errorf("%q: %v, not %v", k.text, got, k.digits)
		}
	}
}

func TestDigits(t *testing.T) {
	for _, said := range texts() {
		if got, want := onetime.Digits(said), modelDigits(said); !slices.Equal(got, want) {
			t.Errorf("%q: %v, not %v", said, got, want)
		}
	}
	for n := range 300 {
		if got, want := onetime.Digits(text(n)), modelDigits(text(n)); !slices.Equal(got, want) {
			t.Errorf("%d bytes: %v, not %v", n, got, want)
		}
	}
}

// The last three digits, the greatest first, where the text's own ones lack just so much.
func TestDigitsOfWhatIsLacking(t *testing.T) {
	lacks := []struct {
		text string
		last []int
	}{
		{"1569985", []int{0, 7, 2}}, {"127", []int{0, 14, 15}}, {"23", []int{0, 15, 0}}, {"19", []int{0, 15, 1}}, {"25", []int{0, 15, 15}},
		{"234", []int{1, 0, 0}}, {"33", []int{1, 0, 1}}, {"242", []int{1, 0, 15}}, {"378", []int{1, 1, 0}}, {"1670800", []int{1, 6, 15}},
	}
	for _, l := range lacks {
		if got := onetime.Digits(l.text); len(got) != chains || !slices.Equal(got[32:], l.last) {
			t.Errorf("%q: %v, not %v at the end", l.text, got, l.last)
		}
	}
}

// Each half of each byte, 0 and 15, in texts that are found by going through them.
func TestDigitsThatAreLeastAndGreatest(t *testing.T) {
	seen := map[[2]int]bool{}
	for n := 0; len(seen) < 64 && n < 10000; n++ {
		said := strconv.Itoa(n)
		digits := onetime.Digits(said)
		if !slices.Equal(digits, modelDigits(said)) {
			t.Fatalf("%q: %v, not %v", said, digits, modelDigits(said))
		}
		for place, digit := range digits[:32] {
			if digit == 0 || digit == greatest {
				seen[[2]int{place, digit}] = true
			}
		}
	}
	if len(seen) != 64 {
		t.Errorf("%d of 64", len(seen))
	}
}

func TestDigitsAre480Together(t *testing.T) {
	for n := range 5000 {
		digits := onetime.Digits(strconv.Itoa(n))
		if len(digits) != chains || slices.Min(digits) < 0 || slices.Max(digits) > greatest {
			t.Fatalf("%d: %v", n, digits)
		}
		sum := digits[32]*256 + digits[33]*16 + digits[34]
		for _, digit := range digits[:32] {
			sum += digit
		}
		if sum != 480 {
			t.Fatalf("%d: %v are %d together", n, digits, sum)
		}
	}
}

// No two texts are found of which the one has no digit below the other's: else its signature would do for the other too.
func TestDigitsThatNoneOutdoes(t *testing.T) {
	var all [][]int
	for n := range 400 {
		all = append(all, onetime.Digits(strconv.Itoa(n)))
	}
	for i, one := range all {
		for j, other := range all {
			if i != j && !slices.ContainsFunc(indices(), func(place int) bool { return one[place] < other[place] }) {
				t.Errorf("%d has no digit below those of %d", i, j)
			}
		}
	}
}

func indices() []int {
	list := make([]int, chains)
	for i := range list {
		list[i] = i
	}
	return list
}

// What was answered is the caller's own, to the end of what it has room for.
func TestDigitsMemory(t *testing.T) {
	first, second := onetime.Digits("abc"), onetime.Digits("abc")
	for i := range first[:cap(first)] {
		first[:cap(first)][i] = -1
	}
	if !slices.Equal(second, modelDigits("abc")) || !slices.Equal(onetime.Digits("abc"), second) {
		t.Error(second)
	}
}

func TestStepWrittenOut(t *testing.T) {
	known := []struct {
		x    string
		n    int
		want string
	}{
		{"", 0, ""}, {"", 1, "e3b0c44298fc1c149afbf4c8996fb924"}, {"", 15, "028ff79ffc135601eb807d6d40390d5e"},
		{"abc", 0, "616263"}, {"abc", 1, "ba7816bf8f01cfea414140de5dae2223"}, {"abc", 2, "9ff443759801907fd827971401f712a1"},
	}
	for _, k := range known {
		if got := hex.EncodeToString([]byte(onetime.Step(k.x, k.n))); got != k.want {
			t.Errorf("%q, %d: %s, not %s", k.x, k.n, got, k.want)
		}
	}
}

func TestStep(t *testing.T) {
	for _, x := range append(texts(), text(15), text(16), text(17), text(32)) {
		for n := range greatest + 1 {
			if got, want := onetime.Step(x, n), modelStep(x, n); got != want {
				t.Errorf("%q, %d: %x, not %x", x, n, got, want)
			}
		}
	}
}

// None: the text itself, however long it is. One and more: 16 bytes, each time other ones.
func TestStepsLength(t *testing.T) {
	for _, n := range []int{0, 1, 15, 16, 17, 31, 32, 33, 64, 65536} {
		x := text(n)
		if onetime.Step(x, 0) != x {
			t.Errorf("no step of %d bytes isn't themselves", n)
		}
		seen := map[string]bool{x: true}
		for steps := 1; steps <= greatest; steps++ {
			y := onetime.Step(x, steps)
			if len(y) != 16 || seen[y] {
				t.Errorf("%d steps of %d bytes: %x", steps, n, y)
			}
			seen[y] = true
		}
	}
}

func TestStepsOneBehindTheOther(t *testing.T) {
	for _, x := range []string{"", "abc", text(16), text(100)} {
		for n := range greatest + 1 {
			for m := range greatest + 1 - n {
				if onetime.Step(onetime.Step(x, n), m) != onetime.Step(x, n+m) {
					t.Errorf("%q: %d and %d", x, n, m)
				}
			}
		}
		if behind := onetime.Step(onetime.Step(x, greatest), 1); behind == onetime.Step(x, greatest) || behind != modelStep(modelStep(x, greatest), 1) {
			t.Errorf("%q: a step behind the fifteenth", x)
		}
	}
}

func TestStepOfTooFewAndTooMany(t *testing.T) {
	for _, x := range []string{"", "q", text(16), text(100)} {
		for _, n := range []int{-1, -2, -15, -16, -256, -1 << 32, 1 - 1<<32, math.MinInt, math.MinInt + 1} {
			if onetime.Step(x, n) != x {
				t.Errorf("%q, %d isn't itself", x, n)
			}
		}
		for _, n := range []int{16, 17, 31, 32, 99, 256, 257, 1 << 32, 1<<32 + 1, math.MaxInt - 1, math.MaxInt} {
			if got := onetime.Step(x, n); got != modelStep(x, greatest) {
				t.Errorf("%q, %d: %x isn't fifteen steps", x, n, got)
			}
		}
	}
}

// Made from the chapter's words by another program than this one.
func TestKeysWrittenOut(t *testing.T) {
	known := []struct {
		seed                      string
		leaf                      int
		text                      string
		public, sum, first, final string
	}{
		{"seed", 3, "hello", "a22d27093428ff0253e2c2ea287e2bc3569fa16ef81f71fe01674958793671d2", "bf0d0a8976979d0e75ceab2ccf5ad29c6501458bdb9c493f3a8829b0e909ed4c", "4a4434a2e76e35129bd8ad144ed8e214", "2978684623e04481ab9e50ea32e6f6f5"},
		{"", 0, "", "bdc4c326adf50301fea3de324f0c681a6d3a5e8a9ef239485ffc350e5324fa07", "18e1f598c10cdcc94385952fbc09c13476f52379fee7bcd855c995de1d6f19de", "c2d33ba37facea80a65c158c1902416d", "4a7c60c501549500c560e9dccc660170"},
		{"", 255, "abc", "7b4ad35d5144ff329c6d7433679f2b74e655e5ec390e2c6152b28d6ad1553dcd", "e1517275b0a8282fee1228b3e85127c5ca29a6564b8ca3d875ae372391d42edb", "2ab900cc428a36695b7853d778db6c6e", "a8034bde41ade20b127c539e3e008d09"},
		{"\xff\x80", 128, "\x00", "a33054c5d67d1177ded0463df8d7af84d454e75719b0f6e95e9b9b4e559fd469", "a0692c20a4497999a820c564b4ef78e61bd52156f2c7618dde01b3f2bee8c57d", "6fab9d0de4463bc7551c0e7a5522daf4", "bf98ce44d965129193e2bbf953a3d25f"},
	}
	for _, k := range known {
		key, e := onetime.Public(k.seed, k.leaf)
		if e != api.OK || hex.EncodeToString([]byte(key)) != k.public {
			t.Errorf("%q, %d: %x, %d", k.seed, k.leaf, key, e)
		}
		sig, e := onetime.Sign(k.seed, k.leaf, k.text)
		if e != api.OK || len(sig) != sigSize {
			t.Fatalf("%q, %d, %q: %d bytes, %d", k.seed, k.leaf, k.text, len(sig), e)
		}
		bytes := hex.EncodeToString([]byte(sig))
		if !strings.HasPrefix(bytes, k.first) || !strings.HasSuffix(bytes, k.final) || hex.EncodeToString([]byte(digest(sig))) != k.sum {
			t.Errorf("%q, %d, %q: %s", k.seed, k.leaf, k.text, bytes)
		}
	}
}

func TestPublicOfEveryLeaf(t *testing.T) {
	seen := map[string]bool{}
	for _, seed := range []string{"", "seed"} {
		for leaf := range 256 {
			key := expectPublic(t, seed, leaf)
			if len(key) != 32 || seen[key] {
				t.Errorf("%q, %d: %x", seed, leaf, key)
			}
			seen[key] = true
		}
	}
}

// Chain by chain, so that what fails tells which piece is wrong.
func TestSignHasAPieceOfEachChain(t *testing.T) {
	for _, leaf := range []int{0, 255} {
		for _, said := range texts() {
			sig, e := onetime.Sign("seed", leaf, said)
			if e != api.OK || len(sig) != sigSize {
				t.Fatalf("%d, %q: %d bytes, %d", leaf, said, len(sig), e)
			}
			for chain, digit := range modelDigits(said) {
				if piece := sig[16*chain : 16*chain+16]; piece != modelChain("seed", leaf, chain)[digit] {
					t.Errorf("%d, %q: the piece of chain %d is %x", leaf, said, chain, piece)
				}
			}
		}
	}
}

func TestSignAndRecover(t *testing.T) {
	for _, seed := range seeds() {
		for _, leaf := range goodLeaves() {
			key := expectPublic(t, seed, leaf)
			for _, said := range texts() {
				sig := expectSign(t, seed, leaf, said)
				if got, ok := onetime.Recover(said, sig); !ok || got != key {
					t.Fatalf("%q, %d, %q: %x, %v, not %x", seed, leaf, said, got, ok, key)
				}
			}
		}
	}
}

// A signature leads to its key with its own text, and to another one with every other text.
func TestRecoverOfOtherTexts(t *testing.T) {
	key := expectPublic(t, "seed", 7)
	for _, said := range texts() {
		sig := expectSign(t, "seed", 7, said)
		for _, other := range append(texts(), said+"\x00", "\x00"+said, said+said+"x") {
			expectRecover(t, other, sig)
			if got, ok := onetime.Recover(other, sig); !ok || (got == key) != (other == said) {
				t.Errorf("%q with the signature of %q: %x, %v", other, said, got, ok)
			}
		}
	}
}

func TestRecoverOfOtherKeys(t *testing.T) {
	sig := expectSign(t, "seed", 7, "hello")
	for _, seed := range seeds() {
		for _, leaf := range []int{0, 6, 7, 8, 255} {
			got, ok := onetime.Recover("hello", sig)
			if key := expectPublic(t, seed, leaf); !ok || (got == key) != (seed == "seed" && leaf == 7) {
				t.Errorf("%q, %d: %x, %v", seed, leaf, got, ok)
			}
		}
	}
}

func TestRecoverOfAChangedByte(t *testing.T) {
	key := expectPublic(t, "seed", 3)
	sig := expectSign(t, "seed", 3, "hello")
	for place := range sigSize {
		changed := []byte(sig)
		changed[place] ^= 1 << (place % 8)
		expectRecover(t, "hello", string(changed))
		if got, ok := onetime.Recover("hello", string(changed)); !ok || got == key {
			t.Errorf("with byte %d changed: %x, %v", place, got, ok)
		}
	}
}

// Pieces of other chains, and pieces a step too far or too near.
func TestRecoverOfMovedPieces(t *testing.T) {
	key := expectPublic(t, "seed", 3)
	sig := expectSign(t, "seed", 3, "hello")
	for chain, digit := range modelDigits("hello") {
		places := modelChain("seed", 3, chain)
		wrong := slices.Clone(places[max(digit-1, 0):min(digit+2, 16)])
		wrong = append(wrong, modelChain("seed", 3, (chain+1)%chains)[digit])
		for _, piece := range wrong {
			moved := sig[:16*chain] + piece + sig[16*chain+16:]
			if got, ok := onetime.Recover("hello", moved); !ok || (got == key) != (piece == places[digit]) {
				t.Errorf("chain %d: %x, %v", chain, got, ok)
			}
		}
	}
}

func TestRecoverOfAnyBytes(t *testing.T) {
	for _, sig := range []string{strings.Repeat("\x00", sigSize), strings.Repeat("\xff", sigSize), text(sigSize)} {
		for _, said := range texts() {
			expectRecover(t, said, sig)
		}
	}
}

func TestRecoverOfWrongLengths(t *testing.T) {
	sig := expectSign(t, "seed", 3, "hello")
	wrong := []string{"", "\x00", sig[:1], sig[:16], sig[:544], sig[:559], sig[1:], sig + "\x00", "\x00" + sig, sig + sig[:16], sig + sig, text(65536)}
	for _, bytes := range wrong {
		for _, said := range []string{"", "hello"} {
			if key, ok := onetime.Recover(said, bytes); ok || key != "" {
				t.Errorf("%q, %d bytes: %x, %v", said, len(bytes), key, ok)
			}
		}
	}
	for n := range 1200 {
		if key, ok := onetime.Recover("hello", text(n)); ok != (n == sigSize) || ok != (key != "") {
			t.Errorf("%d bytes: %x, %v", n, key, ok)
		}
	}
}

func TestStrangersHaveNoKeys(t *testing.T) {
	for _, stranger := range strangers() {
		for _, seed := range []string{"", "seed"} {
			if key, e := onetime.Public(seed, stranger); e != api.ErrArg || key != "" {
				t.Errorf("%q, %d: %x, %d", seed, stranger, key, e)
			}
			for _, said := range []string{"", "hello"} {
				if sig, e := onetime.Sign(seed, stranger, said); e != api.ErrArg || sig != "" {
					t.Errorf("%q, %d, %q: %x, %d", seed, stranger, said, sig, e)
				}
			}
		}
	}
}

// Nothing is kept: a key signs as often as it is asked, and always alike.
func TestNothingIsKept(t *testing.T) {
	first := expectSign(t, "seed", 3, "hello")
	expectSign(t, "seed", 3, "hellp")
	expectPublic(t, "other", 4)
	expectRecover(t, "x", text(sigSize))
	if second := expectSign(t, "seed", 3, "hello"); second != first {
		t.Errorf("%x, not %x", second, first)
	}
}

func FuzzOnetime(f *testing.F) {
	f.Add("", 0, "", "", 0)
	f.Add("seed", 255, "hello", text(sigSize), 15)
	f.Add(text(62), 256, text(64), text(sigSize-1), 16)
	f.Add("s", -1, "abc", text(sigSize+1), -1)
	f.Fuzz(func(t *testing.T, seed string, leaf int, said, sig string, n int) {
		if got, want := onetime.Digits(said), modelDigits(said); !slices.Equal(got, want) {
			t.Errorf("%q: %v, not %v", said, got, want)
		}
		if got, want := onetime.Step(said, n), modelStep(said, n); got != want {
			t.Errorf("%q, %d: %x, not %x", said, n, got, want)
		}
		expectRecover(t, said, sig)
		if leaf >= 0 && leaf <= 255 {
			made := expectSign(t, seed, leaf, said)
			if got, ok := onetime.Recover(said, made); !ok || got != expectPublic(t, seed, leaf) {
				t.Errorf("%q, %d, %q: %x, %v", seed, leaf, said, got, ok)
			}
			return
		}
		if key, e := onetime.Public(seed, leaf); e != api.ErrArg || key != "" {
			t.Errorf("%d: %x, %d", leaf, key, e)
		}
		if made, e := onetime.Sign(seed, leaf, said); e != api.ErrArg || made != "" {
			t.Errorf("%d: %x, %d", leaf, made, e)
		}
	})
}
