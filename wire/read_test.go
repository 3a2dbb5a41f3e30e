package wire_test

import (
	"encoding/binary"
	"math/rand"
	"reflect"
	"strings"
	"testing"

	"witan/api"
	"witan/wire"
)

// P13.1, P13.2: what is read, and of what nothing is made.

func TestReadOfNothing(t *testing.T) {
	expectNone(t, "empty", "")
	for b := range 256 {
		expectNone(t, "one byte", string([]byte{byte(b)}))
		for c := range 256 {
			expectNone(t, "two bytes", string([]byte{byte(b), byte(c)}))
		}
	}
}

// Texts as long as a message may be, and longer ones.
func TestReadLong(t *testing.T) {
	fetch, _ := wire.Bytes(api.Msg{Kind: api.MFetch})
	for _, fill := range []string{"\x00", "\x01", "\xff", "\x0a"} {
		expectNone(t, "as long as may be", strings.Repeat(fill, mostBytes))
		expectNone(t, "a message, and more behind", fetch+strings.Repeat(fill, mostBytes-len(fetch)))
		for _, size := range []int{mostBytes + 1, mostBytes + 2, 2 * mostBytes, 1 << 20} {
			for _, s := range []string{strings.Repeat(fill, size), fetch + strings.Repeat(fill, size-len(fetch))} {
				if m, e := wire.Read(s); e != api.ErrLong || !reflect.DeepEqual(m, api.Msg{}) {
					t.Errorf("%d bytes of %q: %s %d", size, fill, short(plain(m)), e)
				}
			}
		}
	}
	for i, bare := range withText("-") {
		most := mostBytes - sizeOf(bare) + 1
		m := withText(strings.Repeat("a", most))[i]
		s := layoutOf(m)
		if got, e := wire.Read(s); len(s) != mostBytes || e != api.OK || plain(got) != plain(m) {
			t.Errorf("%d bytes: %s %d", len(s), short(plain(got)), e)
		}
		expectNone(t, "the last byte gone", s[:mostBytes-1])
		if _, e := wire.Read(s + "\x00"); e != api.ErrLong {
			t.Error("a byte more", e)
		}
		longer := withText(strings.Repeat("a", min(most+1, 65535)))[i]
		if got, e := wire.Read(layoutOf(longer)); e != api.ErrLong || !reflect.DeepEqual(got, api.Msg{}) {
			t.Errorf("a message of a byte more: %d", e)
		}
	}
}

// No beginning of a message's bytes is a message's.
func TestReadCutShort(t *testing.T) {
	for _, m := range append(few(), shortOnes()...) {
		s := layoutOf(m)
		for n := range len(s) {
			expectNone(t, "cut short", s[:n])
			if n > 0 {
				expectNone(t, "cut at its beginning", s[n:])
			}
		}
	}
}

// shortOnes answers those messages that fit and have few bytes, so that each of their bytes can be gone through.
func shortOnes() []api.Msg {
	var list []api.Msg
	for i, m := range fitting() {
		if sizeOf(m) < 1500 && (i%5 == 0 || m.Kind >= api.MVote) {
			list = append(list, m)
		}
	}
	return list
}

// Nor are they with more behind.
func TestReadWithMoreBehind(t *testing.T) {
	for _, m := range append(few(), shortOnes()...) {
		s := layoutOf(m)
		for _, more := range []string{"\x00", "\x01", "\xff", "\x00\x00", s, strings.Repeat("\x00", 1000)} {
			expectNone(t, "more behind", s+more)
			if more != s {
				expectNone(t, "more ahead", more+s)
			}
		}
	}
	for _, m := range few() {
		for b := range 256 {
			expectNone(t, "a byte more", layoutOf(m)+string([]byte{byte(b)}))
		}
	}
}

// Each byte of a text changed to each other one: what is read is what would be told so, or nothing.
func TestReadEveryByteChanged(t *testing.T) {
	for _, m := range few() {
		s := layoutOf(m)
		for place := range len(s) {
			for b := range 256 {
				changed := []byte(s)
				changed[place] = byte(b)
				expectRead(t, "changed", string(changed))
			}
		}
	}
}

// Each byte taken out, doubled, and put ahead of another one.
func TestReadBytesMoved(t *testing.T) {
	for _, m := range few() {
		s := layoutOf(m)
		for place := range len(s) {
			expectRead(t, "taken out", s[:place]+s[place+1:])
			expectRead(t, "doubled", s[:place+1]+s[place:])
			for _, b := range []string{"\x00", "\x01", "\xff"} {
				expectRead(t, "put in", s[:place]+b+s[place:])
			}
			if place > 0 {
				expectRead(t, "swapped", s[:place-1]+s[place:place+1]+s[place-1:place]+s[place+1:])
			}
		}
	}
}

// Numbers of things that aren't there, more or fewer.
func TestReadCounts(t *testing.T) {
	for _, m := range few() {
		for _, at := range []int{nextAt, sigsAt, changesAt, linksAt} {
			part := partsOf(m)[at]
			for count := range 256 {
				if count != int(part[0]) {
					expectNone(t, "count", with(m, at, string([]byte{byte(count)})+part[1:]))
				}
			}
		}
	}
	// As many as a byte can say, all of them there, and none of them asked.
	fetch := api.Msg{Kind: api.MFetch}
	for _, x := range []struct {
		at    int
		each  string
		sizes []int
	}{
		{nextAt, "\x00", []int{1, 4, 10, 255}},
		{sigsAt, "\x00\x00\x00", []int{1, 2, 16, 17, 255}},
		{changesAt, "\x00\x01\x00\x00\x00\x00", []int{1, 10, 11, 255}},
		{linksAt, linkLayout(api.Link{Conf: conf(1, 0, 1, 2, 3)}), []int{1, 60, 61, 255}},
	} {
		for _, n := range x.sizes {
			part := string([]byte{byte(n)}) + strings.Repeat(x.each, n)
			expectNone(t, "all there", with(fetch, x.at, part))
			expectNone(t, "one too few", with(fetch, x.at, part[:len(part)-len(x.each)]))
		}
	}
	// Nests of counts with nothing behind them.
	head := strings.Join(partsOf(api.Msg{Kind: api.MNewView, View: 1})[:changesAt], "")
	expectNone(t, "many changes", head+strings.Repeat("\xff", mostBytes-len(head)))
	expectNone(t, "many changes", head+"\xff")
	expectNone(t, "many certs", head+"\xff\x00\x01\xff")
	expectNone(t, "many signatures", head+"\xff\x00\x01\xff\x00\x00\x01\x00\x01\x00\xff")
}

// otherRequests answers texts that no request has as its own.
func otherRequests() []string {
	right := requestLayout(put("k", 1.5))
	otherNaN := right[:10] + "\x7f\xf8\x00\x00\x00\x00\x00\x01" + "\x00"
	minus := right[:10] + "\xff\xf8\x00\x00\x00\x00\x00\x00" + "\x00"
	return []string{"", "\x01", "\x02", "\x00\x00", "\xff", right + "\x00", right[:len(right)-1], "\x00" + right, "\x02" + right[1:], "\x00" + right[1:], right + right, otherNaN, minus,
		"\x01" + strings.Repeat("\x00", 17), strings.Repeat("\x00", 18), requestLayout(put("", 1)), requestLayout(put(strings.Repeat("k", 17), 1)), requestLayout(join(16)), strings.Repeat("k", 5000)}
}

// Requests, results and configurations told by a text that isn't their own.
func TestReadOfOtherTexts(t *testing.T) {
	for _, m := range few() {
		for _, s := range otherRequests() {
			expectNone(t, "request", with(m, reqAt, textLayout(s)))
		}
		own := resultLayout(m.Result)
		for _, s := range []string{"", own[:8], own + "\x00", "\x09" + own[1:], "\xff" + own[1:], own[:1] + "\x7f\xf8\x00\x00\x00\x00\x00\x01", own[:1] + "\xff\xf8\x00\x00\x00\x00\x00\x00", own + own, "\x00", "\x00" + own} {
			expectNone(t, "result", with(m, resultAt, textLayout(s)))
		}
		expectNone(t, "a request in the place of a result", with(m, resultAt, textLayout(requestLayout(m.Req))))
	}
	state := api.Msg{Kind: api.MState, Epoch: 1, Slot: 4, Text: "L", Links: links(1, 0)}
	own := confLayout(state.Links[0].Conf)
	if _, e := wire.Read(with(state, linksAt, "\x01"+textLayout(own)+"\x00")); e != api.OK {
		t.Fatal(e)
	}
	for _, s := range []string{"", "C", own[:len(own)-1], own + "\x00", "D" + own[1:], "C\x00\x01\x03\x00\x01\x02", "C\x00\x01\x04\x00\x01\x02", "C\x00\x01\x05\x00\x01\x02\x03", "C\x00\x01\x04\x00\x01\x01\x02", "C\x00\x01\x04\x00\x02\x01\x03", "C\x00\x01\x04\x00\x01\x02\x10", "C\x00\x3d\x04\x00\x01\x02\x03", "C\x00\x00\x04\x00\x01\x02\x03", "C\x00\x02\x04\x00\x01\x02\x03", own + own} {
		expectNone(t, "configuration", with(state, linksAt, "\x01"+textLayout(s)+"\x00"))
	}
	left := api.Msg{Kind: api.MChange, View: 1}
	for _, s := range otherRequests() {
		expectNone(t, "a cert's request", with(left, changesAt, "\x01\x00\x01\x01"+"\x00\x00\x01"+textLayout(s)+"\x00"+"\x00\x00\x00"))
	}
	if _, e := wire.Read(with(left, changesAt, "\x01\x00\x01\x01"+"\x00\x00\x01"+textLayout("\x00")+"\x00"+"\x00\x00\x00")); e != api.OK {
		t.Error(e)
	}
}

// Bits of reals: of all NaNs just one is read.
func TestReadReals(t *testing.T) {
	reply := api.Msg{Kind: api.MReply, Req: get()}
	for exponent := range uint64(2048) {
		for _, rest := range []uint64{0, 1, 1 << 51, 1<<51 + 1, 1<<52 - 1} {
			for _, sign := range []uint64{0, 1 << 63} {
				n := sign | exponent<<52 | rest
				expectRead(t, "a result's real", with(reply, resultAt, textLayout("\x00"+string(binary.BigEndian.AppendUint64(nil, n)))))
			}
		}
	}
	fetch := api.Msg{Kind: api.MFetch}
	expectNone(t, "minus nought that isn't asked", with(fetch, resultAt, textLayout("\x00\x80\x00\x00\x00\x00\x00\x00\x00")))
	expectNone(t, "a code that isn't asked", with(fetch, resultAt, textLayout("\x01\x00\x00\x00\x00\x00\x00\x00\x00")))
}

// Bytes of messages that don't fit, told as the chapter tells a message's.
func TestReadOfWhatDoesNotFit(t *testing.T) {
	edits := allEdits()
	for _, base := range few() {
		for _, first := range edits {
			m := copied(base)
			first.do(&m)
			if !hasRoom(m) {
				continue
			}
			expectRead(t, first.what, layoutOf(m))
			if !modelFits(m) {
				expectNone(t, first.what, layoutOf(m))
			}
		}
	}
	for kind := range 256 {
		for _, base := range few() {
			m := base
			m.Kind = kind
			expectRead(t, "kind", layoutOf(m))
			if kind < 1 || kind > 10 {
				expectNone(t, "no kind", layoutOf(m))
			}
		}
	}
}

// rolled answers a message that fits, put together by chance.
func rolled(roll *rand.Rand) api.Msg {
	m := api.Msg{Kind: 1 + roll.Intn(10), Epoch: roll.Intn(lastEpoch + 1)}
	requests := append(rightRequests(), api.Request{})
	pick := func() api.Request { return requests[roll.Intn(len(requests))] }
	switch m.Kind {
	case api.MRequest:
		m.Epoch, m.Req, m.Sigs = 0, requests[roll.Intn(len(requests)-1)], rolledSigs(roll, 1)
	case api.MPropose, api.MPrepare, api.MCommit:
		m.View, m.Slot, m.Req = roll.Intn(16), 4*m.Epoch+1+roll.Intn(4), pick()
		if m.Kind == api.MPrepare || m.Kind == api.MPropose && m.Req.Client > 0 {
			m.Sigs = rolledSigs(roll, 1)
		}
	case api.MVote:
		m.Slot, m.Text, m.Next, m.Sigs = 4*m.Epoch+4, "x"+rolledText(roll), rolledMembers(roll), rolledSigs(roll, 2)
	case api.MChange, api.MNewView:
		m.View = 1 + roll.Intn(15)
		for from := roll.Intn(4); from < 16 && len(m.Changes) < 10; from += 1 + roll.Intn(5) {
			m.Changes = append(m.Changes, rolledChange(roll, m, from, pick))
		}
		if m.Kind == api.MChange {
			m.Changes = m.Changes[:1]
		}
	case api.MReply:
		m.Req, m.Result = requests[roll.Intn(len(requests)-1)], rightResults()[roll.Intn(len(rightResults()))]
	case api.MState:
		m.Epoch = 1 + roll.Intn(6)
		m.Slot, m.Text, m.Sigs = 4*m.Epoch, "x"+rolledText(roll), rolledSigs(roll, roll.Intn(17))
		for epoch := 1; epoch <= m.Epoch; epoch++ {
			m.Links = append(m.Links, api.Link{Conf: conf(epoch, rolledMembers(roll)...), Sigs: rolledSigs(roll, roll.Intn(5))})
		}
	}
	return m
}

func rolledText(roll *rand.Rand) string {
	s := make([]byte, roll.Intn(9)*roll.Intn(9))
	roll.Read(s)
	return string(s)
}

func rolledSigs(roll *rand.Rand, count int) []api.Sig {
	var list []api.Sig
	for range count {
		list = append(list, sig(roll.Intn(200), rolledText(roll)))
	}
	return list
}

func rolledMembers(roll *rand.Rand) []int {
	list := []int{}
	left, count := 16, 4+roll.Intn(7)
	for id := range 16 {
		if roll.Intn(left) < count-len(list) {
			list = append(list, id)
		}
		left--
	}
	return list
}

func rolledChange(roll *rand.Rand, m api.Msg, from int, pick func() api.Request) api.Change {
	c := change(from, m.View, sig(roll.Intn(200), rolledText(roll)))
	for n := range 4 {
		if roll.Intn(2) == 0 {
			c.Certs = append(c.Certs, cert(roll.Intn(16), 4*m.Epoch+1+n, pick(), rolledSigs(roll, roll.Intn(4))...))
		}
	}
	return c
}

// Messages by chance, told and read again.
func TestRolledMessages(t *testing.T) {
	roll := rand.New(rand.NewSource(1))
	for range 20000 {
		m := rolled(roll)
		if !modelFits(m) {
			t.Fatalf("%s should fit", short(plain(m)))
		}
		expectBytes(t, "rolled", m)
	}
}

// Bytes by chance, near to messages' and far from them.
func TestReadRolledBytes(t *testing.T) {
	roll := rand.New(rand.NewSource(2))
	read := 0
	for range 100000 {
		s := []byte(layoutOf(rolled(roll)))
		for range 1 + roll.Intn(3) {
			place := roll.Intn(len(s))
			switch roll.Intn(3) {
			case 0:
				s[place] = byte(roll.Intn(256))
			case 1:
				s[place] ^= 1 << roll.Intn(8)
			case 2:
				s[place] += byte(roll.Intn(5) - 2)
			}
		}
		expectRead(t, "rolled", string(s))
		if _, e := wire.Read(string(s)); e == api.OK {
			read++
		}
	}
	if read < 1000 {
		t.Errorf("just %d of them are messages", read)
	}
	for range 20000 {
		a, b := layoutOf(rolled(roll)), layoutOf(rolled(roll))
		expectRead(t, "two halves", a[:roll.Intn(len(a)+1)]+b[roll.Intn(len(b)+1):])
		s := make([]byte, roll.Intn(60))
		roll.Read(s)
		expectRead(t, "any", string(s))
	}
}

// Parts of two messages put together, each at its place.
func TestReadMixedParts(t *testing.T) {
	some := few()
	for _, a := range some {
		for _, b := range some {
			for mask := range 1 << 8 {
				parts, others := partsOf(a), partsOf(b)
				for at := range parts {
					if mask>>at&1 == 1 {
						parts[at] = others[at]
					}
				}
				expectRead(t, "mixed", strings.Join(parts, ""))
			}
		}
	}
}
