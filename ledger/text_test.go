package ledger_test

import (
	"math"
	"math/bits"
	"slices"
	"strings"
	"testing"

	"witan/api"
	"witan/ledger"
)

// P12.1, P12.3: bytes, and what is opened of them.

func TestBytesWrittenOut(t *testing.T) {
	p := four(t)
	nobody := strings.Repeat("\x00\x00\x00\x00\x00\x09"+strings.Repeat("\x00", 9), 7)
	zero := strings.Repeat("\x00", 8)
	want := "L\x00\x08C\x00\x00\x04\x00\x01\x02\x03" + "\x04\x00\x01\x02\x03" + "\x00\x00\x00\x00" + "\x00" + "\x00\x00\x00\x00\x00\x09\x00" + zero + nobody
	if s := p.l.Text(); s != want {
		t.Errorf("%q, not %q", s, want)
	}
	p.do(put(1, 0x10203, "b", -1.5))
	p.do(put(1, 0x10204, "a", math.NaN()))
	p.do(join(1, 0x10205, 15))
	p.do(get(1, 0x10206, "none"))
	p.turn()
	p.do(put(1, lastStamp, "ab", math.Inf(1)))
	want = "L\x00\x09C\x00\x01\x05\x00\x01\x02\x03\x0f" + "\x05\x00\x01\x02\x03\x0f" + "\x00\x00\x00\x05" +
		"\x03" + "\x00\x01a\x7f\xf8\x00\x00\x00\x00\x00\x00" + "\x00\x02ab\x7f\xf0\x00\x00\x00\x00\x00\x00" + "\x00\x01b\xbf\xf8\x00\x00\x00\x00\x00\x00" +
		"\x00\x10\x00\x00\x00\x09\x00\x7f\xf0\x00\x00\x00\x00\x00\x00" + nobody
	if s := p.l.Text(); s != want {
		t.Errorf("%q, not %q", s, want)
	}
	l, e := ledger.Open(want)
	if e != api.OK || l.Text() != want {
		t.Error(e)
	}
}

// The greatest ledger: ten members, sixteen keys of sixteen bytes.
func TestGreatestLedger(t *testing.T) {
	p := pairOf(t, firstMembers(10)...)
	for i := range mostKeys {
		p.comes(put(1+i%lastClient, i+1, strings.Repeat(string([]byte{byte(255 - 16*i)}), 16), -1), api.CodeOK, -1)
	}
	if len(p.l.Text()) != 569 {
		t.Error(len(p.l.Text()))
	}
	expectOpens(t, p.l.Text())
}

// someModels answers ledgers of many kinds, as models.
func someModels() []*model {
	first := modelOf(firstMembers(4))
	keys := modelOf([]int{0, 3, 9, 15})
	keys.keys = []entry{{"k", 1}, {"0123456789abcdef", 1 << 63}, {"\x00", oneNaN}, {"kk", 0x7FF0000000000000}}
	keys.done, keys.epoch = 7, 1
	keys.next = setOf(firstMembers(7))
	keys.last[1] = deed{stamp: 7, code: 0, bits: oneNaN}
	keys.last[8] = deed{stamp: lastStamp, code: 5}
	full := modelOf(firstMembers(10))
	full.epoch, full.done = lastEpoch, 244
	full.next = setOf([]int{1, 2, 3, 4, 5, 15})
	for i := range mostKeys {
		full.keys = append(full.keys, entry{keyOf(i), uint64(i)})
	}
	for client := 1; client <= lastClient; client++ {
		full.last[client] = deed{stamp: client * 100000, code: client, bits: math.Float64bits(float64(client))}
	}
	return []*model{first, keys, full}
}

// with answers the model's bytes with another part at the place.
func (m *model) with(place int, part string) string {
	parts := m.parts()
	parts[place] = part
	return strings.Join(parts, "")
}

func TestOpenOfSome(t *testing.T) {
	for _, m := range someModels() {
		if l := expectOpens(t, m.text()); l == nil {
			t.Errorf("not opened: %q", m.text())
		}
	}
}

func TestOpenCutShort(t *testing.T) {
	for _, m := range someModels() {
		s := m.text()
		for n := range len(s) {
			expectNoLedger(t, "cut short", s[:n])
			if n > 0 {
				expectNoLedger(t, "cut at its beginning", s[n:])
			}
		}
	}
}

func TestOpenWithMoreBehind(t *testing.T) {
	for _, m := range someModels() {
		s := m.text()
		for b := range 256 {
			expectNoLedger(t, "a byte more", s+string([]byte{byte(b)}))
			expectNoLedger(t, "a byte ahead", string([]byte{byte(b)})+s)
		}
		expectNoLedger(t, "twice", s+s)
		expectNoLedger(t, "a client more", s+deedBytes(1, 0, 0))
		expectNoLedger(t, "very many", s+strings.Repeat("\x00", 1<<20))
	}
}

// Each byte of a text changed to each other one: what is opened is what is told so, or nothing. Where a single bit is another one, all that the ledger tells is asked.
func TestOpenEveryByteChanged(t *testing.T) {
	for _, m := range someModels() {
		s := m.text()
		for place := range len(s) {
			for b := range 256 {
				other := []byte(s)
				other[place] = byte(b)
				expectOpensOrNot(t, string(other))
				if bits.OnesCount8(byte(b)^s[place]) == 1 {
					expectOpens(t, string(other))
				}
				if place == 0 && b != 76 {
					expectNoLedger(t, "another first byte", string(other))
				}
			}
		}
	}
}

// expectOpensOrNot asks only whether there is a ledger, and what its bytes are.
func expectOpensOrNot(t *testing.T, text string) {
	t.Helper()
	_, is := modelOpen(text)
	l, e := ledger.Open(text)
	if is && (e != api.OK || l.Text() != text) || !is && (e != api.ErrBytes || l != nil) {
		t.Fatalf("Open(%q): %v %d", text, l != nil, e)
	}
}

// Each byte taken out, and each doubled.
func TestOpenEveryByteTakenOutOrDoubled(t *testing.T) {
	for _, m := range someModels() {
		s := m.text()
		for place := range len(s) {
			expectOpens(t, s[:place]+s[place+1:])
			expectOpens(t, s[:place+1]+s[place:])
		}
	}
}

func TestOpenConfigurationsThatArentRight(t *testing.T) {
	for _, m := range someModels() {
		epoch := string([]byte{byte(m.epoch >> 8), byte(m.epoch)})
		for _, members := range wrongMembers() {
			expectNoLedger(t, "configuration", m.with(1, textBytes("C"+epoch+countedBytes(members))))
			expectNoLedger(t, "members to be", m.with(2, countedBytes(members)))
		}
		good := "C" + epoch + countedBytes(m.members.list())
		for _, conf := range []string{"", "C", "B" + good[1:], good + "\x00", good[:len(good)-1], good + good, "\x00" + good} {
			expectNoLedger(t, "configuration", m.with(1, textBytes(conf)))
		}
		for _, count := range []int{0, 3, 11, 16, 255} {
			list := countedBytes(m.next.list())
			expectNoLedger(t, "a wrong count", m.with(2, string([]byte{byte(count)})+list[1:]))
		}
	}
	for _, epoch := range []int{61, 62, 255, 256, 65535} {
		m := modelOf(firstMembers(4))
		m.epoch, m.done = epoch, epoch*interval
		expectNoLedger(t, "epoch", m.text())
	}
}

func wrongMembers() [][]int {
	return [][]int{
		{}, {0}, {0, 1, 2}, firstMembers(11), firstMembers(16), firstMembers(255),
		{0, 1, 2, 16}, {0, 1, 2, 255}, {0, 1, 1, 2}, {0, 1, 2, 3, 3}, {1, 0, 2, 3}, {0, 2, 1, 3}, {3, 2, 1, 0}, {0, 0, 0, 0},
	}
}

// Each set of members may be the members, and those to be, whatever the others are.
func TestOpenMembersToBe(t *testing.T) {
	sets := [][]int{firstMembers(4), firstMembers(10), {12, 13, 14, 15}, {0, 2, 4, 6, 8, 10, 12, 14}, {5, 6, 7, 8, 15}}
	for _, members := range sets {
		for _, next := range sets {
			for _, epoch := range []int{0, 1, 60} {
				m := modelOf(members)
				m.next, m.epoch, m.done = setOf(next), epoch, epoch*interval+1
				if expectOpens(t, m.text()) == nil {
					t.Errorf("not opened: %v, %v", members, next)
				}
			}
		}
	}
}

func TestOpenSlots(t *testing.T) {
	for epoch := range lastEpoch + 1 {
		m := modelOf(firstMembers(4))
		m.epoch = epoch
		for done := range 260 {
			m.done = done
			l := expectOpens(t, m.text())
			if (l != nil) != (done >= 4*epoch && done <= 4*epoch+4) {
				t.Fatalf("%d done in the epoch %d: %v", done, epoch, l != nil)
			}
			if l != nil && l.Full() != (done == 4*epoch+4) {
				t.Fatalf("full, with %d done in the epoch %d", done, epoch)
			}
		}
		for _, done := range []int{1 << 16, 1<<24 + 4*epoch, 1 << 31, 1<<32 - 1, 1<<31 + 4*epoch} {
			m.done = done
			expectNoLedger(t, "slots", m.text())
		}
	}
}

// keysPart answers the keys' part as it stands, right or not.
func keysPart(count int, list ...entry) string {
	s := string([]byte{byte(count)})
	for _, x := range list {
		s += keyBytes(x.key, x.bits)
	}
	return s
}

func TestOpenKeysThatMayNotBe(t *testing.T) {
	long := strings.Repeat("k", 17)
	for _, m := range someModels() {
		for _, list := range [][]entry{
			{{"", 0}},
			{{long, 0}},
			{{strings.Repeat("k", 300), 0}},
			{{"b", 0}, {"a", 0}},
			{{"a", 0}, {"a", 0}},
			{{"a", 0}, {"a", 1}},
			{{"ab", 0}, {"a", 0}},
			{{"a\x00", 0}, {"a", 0}},
			{{"\xff", 0}, {"a", 0}},
			{{"\x80", 0}, {"\x7f", 0}},
			{{"a", 0}, {"", 0}},
			{{"", 0}, {"a", 0}},
			{{"a", 0}, {"c", 0}, {"b", 0}},
			{{"a", 0}, {"b", 0}, {"b", 0}},
			{{"a", 0}, {"b", 0}, {"a", 0}},
			{{"a", 0}, {long, 0}},
		} {
			expectNoLedger(t, "keys", m.with(4, keysPart(len(list), list...)))
		}
		one := entry{"k", 1}
		for _, count := range []int{0, 2, 16, 17, 255} {
			expectNoLedger(t, "a wrong count", m.with(4, keysPart(count, one)))
		}
		for _, list := range [][]entry{
			{}, {one}, {{"a", 0}, {"a\x00", 0}}, {{"A", 0}, {"a", 0}}, {{"\x7f", 0}, {"\x80", 0}}, {{"k", 0}, {strings.Repeat("k", 16), 0}},
		} {
			if expectOpens(t, m.with(4, keysPart(len(list), list...))) == nil {
				t.Errorf("not opened: %v", list)
			}
		}
	}
}

func TestOpenHowManyKeys(t *testing.T) {
	m := someModels()[0]
	for count := range 256 {
		var list []entry
		for i := range count {
			list = append(list, entry{string([]byte{'k', byte(i)}), uint64(i)})
		}
		if l := expectOpens(t, m.with(4, keysPart(count, list...))); (l != nil) != (count <= mostKeys) {
			t.Errorf("%d keys: %v", count, l != nil)
		}
	}
}

// A seventeenth key is put into no ledger that was opened, and is put where one was cut.
func TestOpenedWithSixteenKeys(t *testing.T) {
	m := someModels()[2].copied()
	m.epoch, m.done = 3, 12
	p := &pair{t: t, l: expectOpens(t, m.text()), m: m}
	p.comes(put(1, 900001, "new", 1), api.CodeFull, 0)
	p.comes(cut(1, 900002, keyOf(4)), api.CodeOK, math.Float64frombits(4))
	p.comes(put(1, 900003, "new", 1), api.CodeOK, 1)
}

// Bits that no real has as its own, of keys and of results.
func TestOpenBits(t *testing.T) {
	for _, m := range someModels() {
		for _, n := range edgeBits() {
			if l := expectOpens(t, m.with(4, keysPart(1, entry{"k", n}))); (l != nil) != modelReal(n) {
				t.Errorf("a key's bits %x: %v", n, l != nil)
			}
			other := m.copied()
			for client := 1; client <= lastClient; client++ {
				other.last[client] = deed{stamp: 5, code: 1, bits: n}
				if l := expectOpens(t, other.text()); (l != nil) != modelReal(n) {
					t.Errorf("a result's bits %x: %v", n, l != nil)
				}
				other.last[client] = m.last[client]
			}
		}
	}
}

// edgeBits answers rows of bits around each edge of the format, of reals and of other NaNs.
func edgeBits() []uint64 {
	var all []uint64
	for _, n := range []uint64{0, 1, 1<<52 - 1, 1 << 52, 0x3FF0000000000000, 0x7FEFFFFFFFFFFFFF, 0x7FF0000000000000, 0x7FF0000000000001, 0x7FF7FFFFFFFFFFFF, oneNaN, oneNaN + 1, 0x7FFFFFFFFFFFFFFF} {
		all = append(all, n, n|1<<63)
	}
	for i := range 64 {
		all = append(all, oneNaN^1<<i)
	}
	return all
}

func TestOpenStamps(t *testing.T) {
	for _, m := range someModels() {
		for client := 1; client <= lastClient; client++ {
			other := m.copied()
			for _, stamp := range []int{0, 1, 255, 256, 65536, lastStamp - 1, lastStamp, lastStamp + 1, 1 << 21, 1 << 24, 1 << 31, 1<<32 - 1} {
				other.last[client] = deed{stamp: stamp}
				if l := expectOpens(t, other.text()); (l != nil) != (stamp <= lastStamp) {
					t.Errorf("the stamp %d: %v", stamp, l != nil)
				}
			}
		}
	}
}

// Beside a stamp 0 there is no result but the zero one, by its bits; beside another one each right one.
func TestOpenResults(t *testing.T) {
	for _, m := range someModels() {
		for client := 1; client <= lastClient; client++ {
			other := m.copied()
			for code := range 256 {
				for _, bits := range []uint64{0, 1, 1 << 63, oneNaN} {
					for _, stamp := range []int{0, 1} {
						other.last[client] = deed{stamp: stamp, code: code, bits: bits}
						want := code <= lastCode && (stamp == 1 || code == 0 && bits == 0)
						if l, e := ledger.Open(other.text()); (l != nil) != want || (e == api.OK) != want {
							t.Fatalf("%+v: %v %d", other.last[client], l != nil, e)
						}
					}
				}
			}
		}
	}
}

// A result's text that isn't of nine bytes, wherever it stands.
func TestOpenResultsOfOtherLengths(t *testing.T) {
	m := someModels()[0]
	for client := 1; client <= lastClient; client++ {
		ahead := strings.Repeat(deedBytes(0, 0, 0), client-1)
		behind := strings.Repeat(deedBytes(0, 0, 0), lastClient-client)
		for size := range 40 {
			for _, stamp := range []int{0, 7} {
				s := m.with(5, ahead+longBytes(stamp)+textBytes(strings.Repeat("\x00", size))+behind)
				if l, e := ledger.Open(s); (l != nil) != (size == 9) || (e == api.OK) != (size == 9) {
					t.Fatalf("a result of %d bytes: %v %d", size, l != nil, e)
				}
			}
		}
	}
	for n := range 12 {
		if l := expectOpens(t, m.with(5, strings.Repeat(deedBytes(0, 0, 0), n))); (l != nil) != (n == lastClient) {
			t.Errorf("%d clients: %v", n, l != nil)
		}
	}
}

// A ledger that nobody comes to is a ledger too: what a request came to may be any right result.
func TestOpenOfLedgersThatNobodyComesTo(t *testing.T) {
	m := modelOf(firstMembers(4))
	m.last[3] = deed{stamp: 5, code: api.CodeOld, bits: oneNaN}
	m.last[4] = deed{stamp: 9, code: api.CodeNull, bits: 1 << 63}
	m.last[5] = deed{stamp: 1, code: api.CodeMany, bits: 0}
	m.keys = []entry{{"k", 1}}
	m.next = setOf([]int{9, 10, 11, 12})
	p := &pair{t: t, l: expectOpens(t, m.text()), m: m}
	p.comes(put(3, 5, "a", 1), api.CodeOld, math.Float64frombits(oneNaN))
	p.comes(put(4, 9, "a", 1), api.CodeNull, minusNought)
	p.comes(put(5, 1, "a", 1), api.CodeMany, 0)
	p.comes(put(3, 4, "a", 1), api.CodeOld, 0)
	p.comes(leave(3, 6, 9), api.CodeFew, 0)
}

// What other layers' bytes are, is no ledger's.
func TestOpenOfOtherTexts(t *testing.T) {
	m := someModels()[1]
	parts := m.parts()
	for _, s := range []string{"", "L", "\x00", "C\x00\x00\x04\x00\x01\x02\x03", parts[1], strings.Join(parts[1:], ""), "S\x00\x00\x00\x04" + m.text(), strings.Repeat("L", 569), strings.Repeat("\x00", 569)} {
		expectNoLedger(t, "another text", s)
	}
	for i := range parts {
		expectNoLedger(t, "a part left out", strings.Join(slices.Delete(slices.Clone(parts), i, i+1), ""))
		expectNoLedger(t, "a part twice", strings.Join(slices.Insert(slices.Clone(parts), i, parts[i]), ""))
	}
}

// P12.3: the order in which keys came isn't told.

func TestBytesDontHangOnTheRow(t *testing.T) {
	var want string
	for turned := range mostKeys {
		p := four(t)
		for i := range mostKeys {
			p.comes(put(1, i+1, keyOf((i*5+turned)%mostKeys), 1), api.CodeOK, 1)
		}
		p.comes(cut(1, 20, keyOf(turned)), api.CodeOK, 1)
		p.comes(put(1, 21, keyOf(turned), 1), api.CodeOK, 1)
		// The last request is the same in each row, so that nothing else tells them apart.
		p.comes(put(1, 22, keyOf(0), 1), api.CodeOK, 1)
		if turned == 0 {
			want = p.l.Text()
		}
		for range 20 {
			if p.l.Text() != want || p.l.Copy().Text() != want {
				t.Fatal("other bytes")
			}
		}
	}
}

// Two ledgers that differ in one thing have other bytes, and a call tells them apart.
func TestUnlikeLedgersHaveUnlikeBytes(t *testing.T) {
	base := someModels()[1]
	changes := []func(m *model){
		func(m *model) {},
		func(m *model) { m.epoch, m.done = 2, 8 },
		func(m *model) { m.done++ },
		func(m *model) { m.done-- },
		func(m *model) { m.members = setOf(firstMembers(4)) },
		func(m *model) { m.next = setOf(firstMembers(8)) },
		func(m *model) { m.next = m.members },
		func(m *model) { m.keys = m.keys[1:] },
		func(m *model) { m.keys[0].key = "kkk" },
		func(m *model) { m.keys[0].bits = 0 },
		func(m *model) { m.keys[0].bits = 1 << 63 },
		func(m *model) { m.keys[1].bits = 0 },
		func(m *model) { m.keys = append(m.keys, entry{"new", 0}) },
		func(m *model) { m.last[1].stamp = 8 },
		func(m *model) { m.last[1].code = 1 },
		func(m *model) { m.last[1].bits = 0 },
		func(m *model) { m.last[1].bits = 1 << 63 },
		func(m *model) { m.last[1], m.last[2] = m.last[2], m.last[1] },
		func(m *model) { m.last[8] = deed{} },
		func(m *model) { m.last[3] = deed{stamp: 1} },
	}
	texts := map[string]int{}
	tells := map[string]int{}
	for i, change := range changes {
		m := base.copied()
		change(m)
		l := expectOpens(t, m.text())
		if l == nil {
			t.Fatalf("%d isn't opened", i)
		}
		texts[l.Text()]++
		tells[told(l, "kkk", "new")]++
	}
	if len(texts) != len(changes) || len(tells) != len(changes) {
		t.Error(len(texts), len(tells), len(changes))
	}
}
