package grove_test

import (
	"crypto/sha256"
	"encoding/hex"
	"math"
	"slices"
	"strconv"
	"strings"
	"testing"

	"witan/api"
	"witan/grove"
	"witan/onetime"
)

const (
	highest   = 5
	onceSize  = 560
	pathPlace = 561
)

// text answers n bytes of all kinds, always the same ones.
func text(n int) string {
	bytes := make([]byte, n)
	x := uint32(20261117)
	for i := range bytes {
		x ^= x << 13
		x ^= x >> 17
		x ^= x << 5
		bytes[i] = byte(x >> 11)
	}
	return string(bytes)
}

// digest is the digest as Go's own library has it.
func digest(text string) string {
	sum := sha256.Sum256([]byte(text))
	return string(sum[:])
}

// modelPlace answers what stands on a chain of a one-time key behind n steps.
func modelPlace(seed string, leaf, chain, n int) string {
	x := digest(string(append([]byte(seed), byte(leaf), byte(chain))))[:16]
	for range n {
		x = digest(x)[:16]
	}
	return x
}

func modelDigits(text string) []int {
	var digits []int
	for _, half := range hex.EncodeToString([]byte(digest(text)[:16])) {
		digit, _ := strconv.ParseInt(string(half), 16, 64)
		digits = append(digits, int(digit))
	}
	lack := 0
	for _, digit := range digits {
		lack += 15 - digit
	}
	return append(digits, lack/256, lack%256/16, lack%16)
}

func modelKey(seed string, leaf int) string {
	var ends string
	for chain := range 35 {
		ends += modelPlace(seed, leaf, chain, 15)
	}
	return digest(ends)
}

func modelOnce(seed string, leaf int, text string) string {
	var sig string
	for chain, digit := range modelDigits(text) {
		sig += modelPlace(seed, leaf, chain, digit)
	}
	return sig
}

// modelRecovered answers the key that a one-time signature leads to.
func modelRecovered(text, once string) string {
	var ends string
	for chain, digit := range modelDigits(text) {
		x := once[16*chain : 16*chain+16]
		for range 15 - digit {
			x = digest(x)[:16]
		}
		ends += x
	}
	return digest(ends)
}

// tree is all nodes, level by level: the leaves' first, the root last.
type tree [][]string

func modelTree(seed string, h int) tree {
	var keys []string
	for leaf := range 1 << h {
		keys = append(keys, modelKey(seed, leaf))
	}
	all := tree{keys}
	for len(keys) > 1 {
		var above []string
		for pair := range slices.Chunk(keys, 2) {
			above = append(above, digest(pair[0]+pair[1]))
		}
		all = append(all, above)
		keys = above
	}
	return all
}

func (m tree) root() string { return m[len(m)-1][0] }

func (m tree) path(leaf int) string {
	var path string
	for level, nodes := range m[:len(m)-1] {
		path += nodes[leaf>>level^1]
	}
	return path
}

func modelSign(m tree, seed string, leaf int, text string) string {
	return string([]byte{byte(leaf)}) + modelOnce(seed, leaf, text) + m.path(leaf)
}

// modelTop answers the root that a signature of the right length leads to, whatever its leaf is.
func modelTop(text, sig string) string {
	node := modelRecovered(text, sig[1:pathPlace])
	for i, n := pathPlace, int(sig[0]); i < len(sig); i, n = i+32, n/2 {
		if n%2 == 0 {
			node = digest(node + sig[i:i+32])
		} else {
			node = digest(sig[i:i+32] + node)
		}
	}
	return node
}

func modelVerify(root string, h int, text, sig string) bool {
	if h < 0 || h > highest || len(sig) != pathPlace+32*h || int(sig[0]) >= 1<<h {
		return false
	}
	return modelTop(text, sig) == root
}

func seeds() []string { return []string{"", "seed", "\x00", "\xff\xfe", text(64), text(200)} }

func texts() []string {
	return []string{"", "a", "hello", "\x00", "\xff\xfe", text(64), text(1000)}
}

// wrongHeights are those named, and others whose low bits are a height's.
func wrongHeights() []int {
	return []int{-1, -2, -5, -6, 6, 7, 8, 31, 32, 63, 64, 256, 259, -256, 1 << 32, 1<<32 + 3, -1 << 32, math.MinInt, math.MinInt + 1, math.MinInt + 3, math.MaxInt - 1, math.MaxInt}
}

func newSigner(t *testing.T, seed string, h int) *grove.Signer {
	t.Helper()
	s, e := grove.New(seed, h)
	if e != api.OK || s == nil {
		t.Fatalf("%q, %d: %v, %d", seed, h, s, e)
	}
	return s
}

func sign(t *testing.T, s *grove.Signer, text string) string {
	t.Helper()
	sig, e := s.Sign(text)
	if e != api.OK {
		t.Fatalf("%q: %d", text, e)
	}
	return sig
}

// signAll answers the signatures of one text by all leaves of a new signer.
func signAll(t *testing.T, seed string, h int, text string) []string {
	t.Helper()
	s := newSigner(t, seed, h)
	var sigs []string
	for range 1 << h {
		sigs = append(sigs, sign(t, s, text))
	}
	return sigs
}

func expectSpent(t *testing.T, s *grove.Signer, text string) {
	t.Helper()
	if sig, e := s.Sign(text); e != api.ErrSpent || sig != "" {
		t.Errorf("of a spent signer: %d bytes, %d", len(sig), e)
	}
	if left := s.Left(); left != 0 {
		t.Errorf("of a spent signer: %d left", left)
	}
}

func expectVerify(t *testing.T, want bool, root string, h int, text, sig string) {
	t.Helper()
	if got := grove.Verify(root, h, text, sig); got != want {
		t.Errorf("the height %d, %q, %d bytes: %v", h, text, len(sig), got)
	}
}

// Made from the chapters' words by another program than this one.
func TestTreesWrittenOut(t *testing.T) {
	known := []struct {
		seed      string
		h, leaf   int
		text      string
		root, sum string
		size      int
		last      string
	}{
		{"seed", 3, 0, "hello", "f44cf23e306b89e66927dfccb962060ede72134a11c2d45ed8b73b58368a83ee", "a87510afc3971f13737d26714b95b7f448468ae206c822047f57045a563da406", 657, "a8c8958da630a8184326a111cb1760af832f52b446599da8ac1917c52d58d433"},
		{"seed", 3, 5, "hello", "f44cf23e306b89e66927dfccb962060ede72134a11c2d45ed8b73b58368a83ee", "54fd636ac9d3561b343d8fe59bf1cc8b8d3b90a400e574100bb91dedbef39c01", 657, "84ffd347e4a8829fdc4022a073b80f270d97d9dd20944cb9afe0c7f5b892d5bd"},
		{"", 0, 0, "", "bdc4c326adf50301fea3de324f0c681a6d3a5e8a9ef239485ffc350e5324fa07", "7bed800ead7a7f1aa49a236b48431e340d482054ca36fb6c6bb826828cf339bf", 561, ""},
		{"", 5, 31, "abc", "4d3ca2073293be25a71a64d1e93224f2b1173e270d266e780f7fff38d26e6281", "d3ed7fb30eb9146a8335b2995b0357a490e881abdb4e8f841f0d052f0b03f413", 721, "ac582c28507977e0a1529348dfce32caeb5a086dedd24285c148a134c4fce6f5"},
		{"\xff\x80", 5, 18, "\x00", "1408a124258daecb3012c591809b8a7b0d2ce0b6a354c8e5e952b4ac2965dae9", "b06376619ddf65314b569b08897ee7ad702a28ef7792b4e8eefeb6248854e50f", 721, "3a04ca611d93bc0ff5b57819e7e63f0e3102c558aa28d49fc32d5de57af8e5f5"},
		{"seed", 4, 9, "", "5073991ee0365e7b97d772cbd9b644677ea24908e4887745fe5bd8975daf5d63", "1fa73b207361bb1058db24a6f2eda97bc4ff5fed830d60855d467628b3c917ac", 689, "f44cf23e306b89e66927dfccb962060ede72134a11c2d45ed8b73b58368a83ee"},
		{"seed", 2, 2, "hello", "84ffd347e4a8829fdc4022a073b80f270d97d9dd20944cb9afe0c7f5b892d5bd", "8cd338912c2393fcd393293f2e6ee5727651fc300f8f7ccd9e30cc98160913fd", 625, "359e025e99982c38a701dfec26d8160eb74afabd887af6139f23b33648cadf9b"},
	}
	for _, k := range known {
		root, e := grove.Root(k.seed, k.h)
		if e != api.OK || hex.EncodeToString([]byte(root)) != k.root {
			t.Errorf("%q, %d: %x, %d", k.seed, k.h, root, e)
		}
		sig := signAll(t, k.seed, k.h, k.text)[k.leaf]
		if len(sig) != k.size || hex.EncodeToString([]byte(digest(sig))) != k.sum || !strings.HasSuffix(hex.EncodeToString([]byte(sig)), k.last) {
			t.Errorf("%q, %d, %d, %q: %x", k.seed, k.h, k.leaf, k.text, sig)
		}
		expectVerify(t, true, root, k.h, k.text, sig)
	}
}

// The chapter's example.
func TestGroveOfOneLeaf(t *testing.T) {
	for _, seed := range seeds() {
		key, _ := onetime.Public(seed, 0)
		root, e := grove.Root(seed, 0)
		s := newSigner(t, seed, 0)
		if e != api.OK || root != key || s.Root() != key || s.Left() != 1 {
			t.Errorf("%q: %x, %d, %x, %d left", seed, root, e, s.Root(), s.Left())
		}
		once, _ := onetime.Sign(seed, 0, "hello")
		if sig := sign(t, s, "hello"); sig != "\x00"+once {
			t.Errorf("%q: %x", seed, sig)
		}
		expectSpent(t, s, "hello")
		expectSpent(t, s, "other")
	}
}

func TestRoot(t *testing.T) {
	seen := map[string]bool{}
	for _, seed := range seeds() {
		for h := range highest + 1 {
			root, e := grove.Root(seed, h)
			if want := modelTree(seed, h).root(); e != api.OK || root != want {
				t.Errorf("%q, %d: %x, %d, not %x", seed, h, root, e, want)
			}
			if len(root) != 32 || seen[root] {
				t.Errorf("%q, %d: %x", seed, h, root)
			}
			seen[root] = true
		}
	}
}

// Each signature of each leaf, piece by piece, so that what fails tells which piece is wrong; then none is left.
func TestSignByEachLeafOnce(t *testing.T) {
	for _, seed := range []string{"", "seed"} {
		for h := range highest + 1 {
			m, s := modelTree(seed, h), newSigner(t, seed, h)
			for leaf := range 1 << h {
				if left := s.Left(); left != 1<<h-leaf {
					t.Errorf("%q, %d: %d left ahead of leaf %d", seed, h, left, leaf)
				}
				said := texts()[leaf%len(texts())]
				sig := sign(t, s, said)
				if len(sig) != pathPlace+32*h || int(sig[0]) != leaf {
					t.Fatalf("%q, %d, %d: %d bytes, leaf %d", seed, h, leaf, len(sig), sig[0])
				}
				if sig[1:pathPlace] != modelOnce(seed, leaf, said) || sig[pathPlace:] != m.path(leaf) {
					t.Errorf("%q, %d, %d, %q: %x", seed, h, leaf, said, sig)
				}
				expectVerify(t, true, s.Root(), h, said, sig)
				expectVerify(t, true, m.root(), h, said, sig)
			}
			for _, said := range []string{"", "hello", "hello"} {
				expectSpent(t, s, said)
			}
			if s.Root() != m.root() {
				t.Errorf("%q, %d: %x", seed, h, s.Root())
			}
		}
	}
}

func TestSignOfEachSeedAndText(t *testing.T) {
	for _, seed := range seeds() {
		m, s := modelTree(seed, 3), newSigner(t, seed, 3)
		for leaf, said := range texts() {
			if sig, want := sign(t, s, said), modelSign(m, seed, leaf, said); sig != want {
				t.Errorf("%q, %d, %q: %x, not %x", seed, leaf, said, sig, want)
			}
		}
	}
}

// Everything beside the first and the last leaf is right of the one, and left of the other.
func TestPathOfFirstAndLastLeaf(t *testing.T) {
	for h := range highest + 1 {
		m, sigs := modelTree("seed", h), signAll(t, "seed", h, "hello")
		for level, nodes := range m[:h] {
			place := pathPlace + 32*level
			if got := sigs[0][place : place+32]; got != nodes[1] {
				t.Errorf("%d, the first, %d: %x", h, level, got)
			}
			if got := sigs[len(sigs)-1][place : place+32]; got != nodes[len(nodes)-2] {
				t.Errorf("%d, the last, %d: %x", h, level, got)
			}
		}
	}
}

func TestVerifyOfOtherTexts(t *testing.T) {
	for _, h := range []int{0, 2, 5} {
		s := newSigner(t, "seed", h)
		for _, said := range texts()[:min(len(texts()), 1<<h)] {
			sig := sign(t, s, said)
			for _, other := range append(texts(), said+"\x00", "\x00"+said, said+said+"x", sig) {
				expectVerify(t, other == said, s.Root(), h, other, sig)
			}
		}
	}
}

func TestVerifyByOtherRoots(t *testing.T) {
	for _, h := range []int{0, 1, 3, 5} {
		m, sig := modelTree("seed", h), signAll(t, "seed", h, "hello")[1<<h-1]
		root := m.root()
		expectVerify(t, true, root, h, "hello", sig)
		wrong := []string{"", "\x00", root[:1], root[:31], root[1:], root + "\x00", "\x00" + root, root + root, strings.Repeat("\x00", 32), digest(root), hex.EncodeToString([]byte(root))}
		for place := range root {
			changed := []byte(root)
			changed[place] ^= 1 << (place % 8)
			wrong = append(wrong, string(changed))
		}
		for _, nodes := range m[:h] {
			wrong = append(wrong, nodes...)
		}
		for _, seed := range seeds() {
			for height := range highest + 1 {
				if seed != "seed" || height != h {
					other, _ := grove.Root(seed, height)
					wrong = append(wrong, other)
				}
			}
		}
		for _, other := range wrong {
			expectVerify(t, false, other, h, "hello", sig)
		}
	}
}

// With its own root and with that of the other height: the signature's length tells its height.
func TestVerifyByOtherHeights(t *testing.T) {
	for h := range highest + 1 {
		root, _ := grove.Root("seed", h)
		for _, sig := range signAll(t, "seed", h, "hello") {
			for other := range highest + 1 {
				expectVerify(t, other == h, root, other, "hello", sig)
				if other != h {
					otherRoot, _ := grove.Root("seed", other)
					expectVerify(t, false, otherRoot, other, "hello", sig)
				}
			}
			for _, wrong := range wrongHeights() {
				expectVerify(t, false, root, wrong, "hello", sig)
			}
		}
	}
}

// The left half of a tree is the tree of one height less, and its signatures are the other's without the last node of their paths.
func TestTreeWithinATree(t *testing.T) {
	for h := 1; h <= highest; h++ {
		below, sigs := signAll(t, "seed", h-1, "hello"), signAll(t, "seed", h, "hello")
		root, _ := grove.Root("seed", h-1)
		for leaf, sig := range sigs {
			cut := sig[:len(sig)-32]
			if leaf < len(below) && cut != below[leaf] {
				t.Errorf("%d, %d: %x", h, leaf, cut)
			}
			expectVerify(t, leaf < len(below), root, h-1, "hello", cut)
		}
	}
}

// Each byte, so that there are changed ones in the leaf, in the one-time signature and in each node of the path.
func TestVerifyOfAChangedByte(t *testing.T) {
	for _, h := range []int{0, 1, 3, 5} {
		s := newSigner(t, "seed", h)
		root, sig := s.Root(), sign(t, s, "hello")
		for place := range sig {
			for _, bit := range []int{0, place % 8, 7} {
				changed := []byte(sig)
				changed[place] ^= 1 << bit
				expectVerify(t, false, root, h, "hello", string(changed))
			}
		}
		expectVerify(t, true, root, h, "hello", sig)
	}
}

// Every leaf's byte: where it is 2^h or above it, halving leads past the same sides as one of the tree's own leaves does.
func TestVerifyOfEveryLeafByte(t *testing.T) {
	for h := range highest + 1 {
		root, _ := grove.Root("seed", h)
		for leaf, sig := range signAll(t, "seed", h, "hello") {
			for b := range 256 {
				expectVerify(t, b == leaf, root, h, "hello", string([]byte{byte(b)})+sig[1:])
			}
		}
	}
}

// A leaf of the seed that the tree hasn't: what it leads to is a root of its own, and no signature even so.
func TestVerifyOfLeavesBeyond(t *testing.T) {
	for h := range highest + 1 {
		for _, leaf := range []int{0, 1<<h - 1, 1 << h, 1<<h + 1, 2<<h - 1, 2 << h, 128, 255} {
			once, _ := onetime.Sign("seed", leaf, "hello")
			sig := string([]byte{byte(leaf)}) + once + text(32*h)
			expectVerify(t, leaf < 1<<h, modelTop("hello", sig), h, "hello", sig)
		}
	}
}

// Any bytes in a signature's place, with any root and with just the one that they lead to.
func TestVerifyOfAnyBytes(t *testing.T) {
	for h := range highest + 1 {
		size := pathPlace - 1 + 32*h
		for leaf := range 1 << h {
			for _, rest := range []string{strings.Repeat("\x00", size), strings.Repeat("\xff", size), text(size)} {
				sig := string([]byte{byte(leaf)}) + rest
				top := modelTop("hello", sig)
				expectVerify(t, true, top, h, "hello", sig)
				expectVerify(t, false, text(32), h, "hello", sig)
				expectVerify(t, false, top, h, "hellp", sig)
			}
		}
	}
}

// Nodes of the path in another order, twice, or of another leaf.
func TestVerifyOfMovedNodes(t *testing.T) {
	root, _ := grove.Root("seed", 4)
	sigs := signAll(t, "seed", 4, "hello")
	for leaf, sig := range sigs {
		for i := range 4 {
			for j := range i {
				a, b := pathPlace+32*i, pathPlace+32*j
				swapped := []byte(sig)
				copy(swapped[a:], sig[b:b+32])
				copy(swapped[b:], sig[a:a+32])
				doubled := []byte(sig)
				copy(doubled[a:], sig[b:b+32])
				expectVerify(t, false, root, 4, "hello", string(swapped))
				expectVerify(t, false, root, 4, "hello", string(doubled))
			}
		}
		for other, path := range sigs {
			expectVerify(t, other == leaf, root, 4, "hello", sig[:pathPlace]+path[pathPlace:])
			expectVerify(t, other == leaf, root, 4, "hello", sig[:1]+path[1:pathPlace]+sig[pathPlace:])
		}
	}
}

func TestVerifyOfWrongLengths(t *testing.T) {
	for h := range highest + 1 {
		s := newSigner(t, "seed", h)
		root, sig := s.Root(), sign(t, s, "hello")
		wrong := []string{"", "\x00", sig[:1], sig[:onceSize], sig[:len(sig)-1], sig[1:], sig[:len(sig)-32], sig + "\x00", "\x00" + sig, sig + text(31), sig + text(32), sig + sig, text(65536)}
		for _, bytes := range wrong {
			expectVerify(t, false, root, h, "hello", bytes)
			expectVerify(t, false, "", h, "hello", bytes)
			expectVerify(t, false, "", h, "", bytes)
		}
		for n := range 800 {
			if n != len(sig) {
				expectVerify(t, false, root, h, "hello", (sig + text(800))[:n])
			}
		}
	}
}

func TestWrongHeights(t *testing.T) {
	for _, h := range wrongHeights() {
		for _, seed := range []string{"", "seed"} {
			if root, e := grove.Root(seed, h); e != api.ErrArg || root != "" {
				t.Errorf("%q, %d: %x, %d", seed, h, root, e)
			}
			if s, e := grove.New(seed, h); e != api.ErrArg || s != nil {
				t.Errorf("%q, %d: %v, %d", seed, h, s, e)
			}
		}
		for _, n := range []int{0, 1, onceSize, 561, 593, 625, 657, 689, 721, 753} {
			expectVerify(t, false, "", h, "", strings.Repeat("\x00", n))
			expectVerify(t, false, text(32), h, "hello", strings.Repeat("\x00", n))
		}
	}
}

// Of a height one below and one above those that there are, a tree that hangs together is none.
func TestVerifyOfATreeTooHigh(t *testing.T) {
	m := modelTree("seed", highest+1)
	for _, leaf := range []int{0, 31, 32, 63} {
		expectVerify(t, false, m.root(), highest+1, "hello", modelSign(m, "seed", leaf, "hello"))
	}
	once, _ := onetime.Sign("seed", 0, "hello")
	key, _ := onetime.Public("seed", 0)
	expectVerify(t, false, key, -1, "hello", "\x00"+once)
	expectVerify(t, false, key, -1, "hello", ("\x00" + once)[:pathPlace-32])
}

func TestNilSigner(t *testing.T) {
	var s *grove.Signer
	for range 2 {
		if root, left := s.Root(), s.Left(); root != "" || left != 0 {
			t.Errorf("%x, %d", root, left)
		}
		for _, said := range []string{"", "hello"} {
			if sig, e := s.Sign(said); e != api.ErrArg || sig != "" {
				t.Errorf("%q: %x, %d", said, sig, e)
			}
		}
	}
}

// No call panics, not even of a signer that New didn't make.
func TestSignerWithoutNew(t *testing.T) {
	s := new(grove.Signer)
	for range 3 {
		s.Root()
		s.Left()
		s.Sign("hello")
	}
}

// Two signers of one seed know nothing of one another, and sign alike.
func TestTwoSignersOfOneSeed(t *testing.T) {
	m := modelTree("seed", 2)
	one, other := newSigner(t, "seed", 2), newSigner(t, "seed", 2)
	for leaf := range 4 {
		first := sign(t, one, "hello")
		if one.Left() != 3-leaf || other.Left() != 4 {
			t.Errorf("%d and %d left", one.Left(), other.Left())
		}
		if first != modelSign(m, "seed", leaf, "hello") {
			t.Errorf("%d: %x", leaf, first)
		}
	}
	expectSpent(t, one, "hello")
	for leaf := range 4 {
		if sig := sign(t, other, "hellp"); sig != modelSign(m, "seed", leaf, "hellp") {
			t.Errorf("%d: %x", leaf, sig)
		}
		expectSpent(t, one, "hello")
	}
	expectSpent(t, other, "hellp")
	if one.Root() != m.root() || other.Root() != m.root() {
		t.Errorf("%x, %x", one.Root(), other.Root())
	}
}

// Signers of one seed and of several heights: each has its own tree, and a spent one spends no other.
func TestSignersOfSeveralHeights(t *testing.T) {
	var signers []*grove.Signer
	for h := range 4 {
		signers = append(signers, newSigner(t, "seed", h))
	}
	for round := range 10 {
		for h, s := range signers {
			if round >= 1<<h {
				expectSpent(t, s, "hello")
				continue
			}
			sig := sign(t, s, "hello")
			if int(sig[0]) != round || s.Left() != 1<<h-round-1 {
				t.Errorf("%d, %d: leaf %d, %d left", h, round, sig[0], s.Left())
			}
			expectVerify(t, true, modelTree("seed", h).root(), h, "hello", sig)
		}
	}
}

// Every row of five calls of a signer with two leaves: what each answers hangs on how many leaves were used, and on nothing else.
func TestCallsInWhateverRow(t *testing.T) {
	m := modelTree("s", 1)
	said := []string{"one", "two"}
	var sigs [2][2]string
	for k := range said {
		for leaf := range 2 {
			sigs[k][leaf] = modelSign(m, "s", leaf, said[k])
		}
	}
	const rows = 4 * 4 * 4 * 4 * 4
	for row := range rows {
		s, used := newSigner(t, "s", 1), 0
		for rest := row + rows; rest > 1; rest /= 4 {
			switch rest % 4 {
			case 0:
				if s.Root() != m.root() {
					t.Fatalf("row %d: %x", row, s.Root())
				}
			case 1:
				if s.Left() != 2-used {
					t.Fatalf("row %d: %d left", row, s.Left())
				}
			default:
				k := rest%4 - 2
				sig, e := s.Sign(said[k])
				if used == 2 {
					if sig != "" || e != api.ErrSpent {
						t.Fatalf("row %d: %d bytes, %d", row, len(sig), e)
					}
					continue
				}
				if sig != sigs[k][used] || e != api.OK {
					t.Fatalf("row %d: %x, %d", row, sig, e)
				}
				used++
			}
		}
	}
}

// What needs no signer uses no leaf, and neither do a signer's other calls and refused ones.
func TestOnlySignUsesLeaves(t *testing.T) {
	s := newSigner(t, "seed", 1)
	first := sign(t, s, "hello")
	for range 3 {
		grove.Root("seed", 1)
		grove.New("seed", 1)
		grove.New("seed", 6)
		expectVerify(t, true, s.Root(), 1, "hello", first)
		expectVerify(t, false, s.Root(), 1, "hellp", first)
		if s.Left() != 1 {
			t.Fatalf("%d left", s.Left())
		}
	}
	if second := sign(t, s, "hello"); second[0] != 1 || second == first {
		t.Errorf("%x", second)
	}
	expectSpent(t, s, "hello")
	expectVerify(t, true, s.Root(), 1, "hello", first)
}

func FuzzGrove(f *testing.F) {
	f.Add("", 0, "", "", "", 0)
	f.Add("seed", 5, "hello", text(32), text(721), 33)
	f.Add("seed", 3, "hello", text(32), "\x07"+text(656), 8)
	f.Add(text(64), 6, text(64), "", text(753), 1)
	f.Add("s", -1, "abc", text(31), text(529), -1)
	f.Fuzz(func(t *testing.T, seed string, h int, said, root, sig string, calls int) {
		expectVerify(t, modelVerify(root, h, said, sig), root, h, said, sig)
		if h < 0 || h > highest {
			if root, e := grove.Root(seed, h); e != api.ErrArg || root != "" {
				t.Errorf("%d: %x, %d", h, root, e)
			}
			if s, e := grove.New(seed, h); e != api.ErrArg || s != nil {
				t.Errorf("%d: %v, %d", h, s, e)
			}
			return
		}
		if len(sig) == pathPlace+32*h {
			top := modelTop(said, sig)
			expectVerify(t, modelVerify(top, h, said, sig), top, h, said, sig)
		}
		m, s := modelTree(seed, h), newSigner(t, seed, h)
		for leaf := range max(min(calls, 1<<h+2), 0) {
			if leaf >= 1<<h {
				expectSpent(t, s, said)
			} else if made := sign(t, s, said); made != modelSign(m, seed, leaf, said) || !grove.Verify(m.root(), h, said, made) {
				t.Errorf("%q, %d, %d, %q: %x", seed, h, leaf, said, made)
			}
		}
	})
}
