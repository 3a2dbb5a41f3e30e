package wire_test

import (
	"math"
	"strings"
	"testing"

	"witan/api"
	"witan/wire"
)

// P13.1: the bytes of messages that fit.

const (
	noResult = "\x00\x09\x00\x00\x00\x00\x00\x00\x00\x00\x00"
	noReq    = "\x00\x01\x00"
	getText  = "\x00\x13\x01\x01\x00\x00\x00\x01\x05\x00\x01k\x00\x00\x00\x00\x00\x00\x00\x00\x00"
)

// Bytes as the chapter has them, written out by hand, of each kind.
func TestBytesWrittenOut(t *testing.T) {
	negInf := put("ab", math.Inf(-1))
	for _, x := range []struct {
		m    api.Msg
		want string
	}{
		{api.Msg{Kind: api.MRequest, Req: get(), Sigs: []api.Sig{sig(101, "xy")}},
			"\x01\x00\x00\x00\x00\x00" + getText + noResult + "\x00\x00" + "\x00" + "\x01\x65\x00\x02xy" + "\x00" + "\x00"},
		{api.Msg{Kind: api.MPropose, Epoch: 60, View: 15, Slot: 244},
			"\x02\x00\x3c\x0f\x00\xf4" + noReq + noResult + "\x00\x00" + "\x00\x00\x00\x00"},
		{api.Msg{Kind: api.MPrepare, Epoch: 1, View: 2, Slot: 5, Req: negInf, Sigs: []api.Sig{sig(199, "")}},
			"\x03\x00\x01\x02\x00\x05" + "\x00\x14\x01\x03\x00\x01\x11\x70\x01\x00\x02ab\xff\xf0\x00\x00\x00\x00\x00\x00\x00" + noResult + "\x00\x00" + "\x00" + "\x01\xc7\x00\x00" + "\x00" + "\x00"},
		{api.Msg{Kind: api.MCommit, Slot: 4, Req: join(15)},
			"\x04\x00\x00\x00\x00\x04" + "\x00\x12\x01\x08\x00\x10\x00\x00\x06\x00\x00\x00\x00\x00\x00\x00\x00\x00\x00\x0f" + noResult + "\x00\x00" + "\x00\x00\x00\x00"},
		{api.Msg{Kind: api.MVote, Epoch: 40, Slot: 164, Text: "st", Next: []int{0, 3, 9, 15}, Sigs: []api.Sig{sig(0, "a"), sig(1, "bc")}},
			"\x05\x00\x28\x00\x00\xa4" + noReq + noResult + "\x00\x02st" + "\x04\x00\x03\x09\x0f" + "\x02\x00\x00\x01a\x01\x00\x02bc" + "\x00" + "\x00"},
		{api.Msg{Kind: api.MChange, Epoch: 1, View: 3, Changes: []api.Change{change(9, 3, sig(9, "me"), cert(0, 6, get(), sig(1, "p"), sig(2, "")), cert(15, 8, api.Request{}))}},
			"\x06\x00\x01\x03\x00\x00" + noReq + noResult + "\x00\x00" + "\x00" + "\x00" + "\x01\x09\x03\x02" + "\x00\x00\x06" + getText + "\x02\x01\x00\x01p\x02\x00\x00" + "\x0f\x00\x08" + noReq + "\x00" + "\x09\x00\x02me" + "\x00"},
		{api.Msg{Kind: api.MNewView, View: 1, Changes: []api.Change{change(2, 1, sig(2, "")), change(14, 1, sig(0, "z"))}},
			"\x07\x00\x00\x01\x00\x00" + noReq + noResult + "\x00\x00" + "\x00" + "\x00" + "\x02" + "\x02\x01\x00\x02\x00\x00" + "\x0e\x01\x00\x00\x00\x01z" + "\x00"},
		{api.Msg{Kind: api.MReply, Epoch: 2, Req: get(), Result: api.Result{Code: 8, Real: math.NaN()}},
			"\x08\x00\x02\x00\x00\x00" + getText + "\x00\x09\x08\x7f\xf8\x00\x00\x00\x00\x00\x00" + "\x00\x00" + "\x00\x00\x00\x00"},
		{api.Msg{Kind: api.MFetch, Epoch: 3},
			"\x09\x00\x03\x00\x00\x00" + noReq + noResult + "\x00\x00" + "\x00\x00\x00\x00"},
		{api.Msg{Kind: api.MState, Epoch: 2, Slot: 8, Text: "L", Sigs: []api.Sig{sig(3, "s")}, Links: []api.Link{{Conf: conf(1, 0, 1, 2, 3), Sigs: []api.Sig{sig(1, "l")}}, {Conf: conf(2, 1, 2, 3, 4, 15)}}},
			"\x0a\x00\x02\x00\x00\x08" + noReq + noResult + "\x00\x01L" + "\x00" + "\x01\x03\x00\x01s" + "\x00" + "\x02" + "\x00\x08C\x00\x01\x04\x00\x01\x02\x03\x01\x01\x00\x01l" + "\x00\x09C\x00\x02\x05\x01\x02\x03\x04\x0f\x00"},
	} {
		if s, e := wire.Bytes(x.m); e != api.OK || s != x.want {
			t.Errorf("%s: %q %d, not %q", plain(x.m), s, e, x.want)
		}
		if m, e := wire.Read(x.want); e != api.OK || plain(m) != plain(canon(x.m)) {
			t.Errorf("%q is read as %s %d", x.want, plain(m), e)
		}
	}
}

func TestBytesOfAllThatFit(t *testing.T) {
	kinds := map[int]int{}
	for _, m := range fitting() {
		if !modelFits(m) {
			t.Errorf("%s should fit", short(plain(m)))
		}
		expectError(t, "fits", m, api.OK)
		kinds[m.Kind]++
	}
	if len(kinds) != 10 {
		t.Error(kinds)
	}
}

// Lists without elements, which aren't nil, count as none.
func TestBytesOfEmptyLists(t *testing.T) {
	for _, m := range append(few(), fitting()[:50]...) {
		bare, e := wire.Bytes(m)
		if e != api.OK {
			t.Fatal(e)
		}
		if s, e := wire.Bytes(withEmptyLists(m)); e != api.OK || s != bare {
			t.Errorf("%s: %q %d", plain(m), s, e)
		}
	}
}

// withEmptyLists answers the message with lists that aren't nil where it has none.
func withEmptyLists(m api.Msg) api.Msg {
	m = copied(m)
	if m.Next == nil {
		m.Next = []int{}
	}
	m.Sigs = someList(m.Sigs)
	if m.Changes == nil {
		m.Changes = []api.Change{}
	}
	for i := range m.Changes {
		if m.Changes[i].Certs == nil {
			m.Changes[i].Certs = []api.Cert{}
		}
		for j := range m.Changes[i].Certs {
			m.Changes[i].Certs[j].Sigs = someList(m.Changes[i].Certs[j].Sigs)
		}
	}
	if m.Links == nil {
		m.Links = make([]api.Link, 0, 3)
	}
	for i := range m.Links {
		m.Links[i].Sigs = someList(m.Links[i].Sigs)
	}
	return m
}

func someList(list []api.Sig) []api.Sig {
	if list == nil {
		return make([]api.Sig, 0, 2)
	}
	return list
}

// Texts of every kind of bytes: nothing in them is taken for what stands behind.
func TestBytesOfAnyTexts(t *testing.T) {
	all := make([]byte, 256)
	for i := range all {
		all[i] = byte(i)
	}
	inner, _ := wire.Bytes(few()[8])
	for _, s := range []string{"\x00", "\xff", "\x00\x00", "\x00\x01x", string(all), inner, inner + inner, strings.Repeat("\x00", 65000), "é\xff"} {
		for _, m := range []api.Msg{
			{Kind: api.MRequest, Req: get(), Sigs: []api.Sig{sig(1, s)}},
			{Kind: api.MVote, Slot: 4, Text: s, Next: upTo(4), Sigs: sigs(2)},
			{Kind: api.MVote, Slot: 4, Text: "x", Next: upTo(4), Sigs: []api.Sig{sig(1, ""), sig(2, s)}},
			{Kind: api.MChange, View: 1, Changes: []api.Change{change(1, 1, sig(1, s))}},
			{Kind: api.MChange, View: 1, Changes: []api.Change{change(1, 1, sig(1, ""), cert(0, 1, get(), sig(1, s)))}},
			{Kind: api.MState, Epoch: 1, Slot: 4, Text: s, Links: links(1, 0)},
			{Kind: api.MState, Epoch: 1, Slot: 4, Text: "x", Links: []api.Link{{Conf: conf(1, 0, 1, 2, 3), Sigs: []api.Sig{sig(1, s)}}}},
		} {
			expectError(t, "text", m, api.OK)
		}
	}
}

// P13.1: how long a message may be.

// withText answers messages of each kind that has a text of any length, with this text in each place where one may stand.
func withText(s string) []api.Msg {
	at := api.Msg{Epoch: 1, View: 2, Slot: 6, Req: get()}
	propose := proposeOf(at)
	propose.Sigs = []api.Sig{sig(101, s)}
	full := links(lastEpoch, 0)
	full[59].Sigs = append(sigs(15), sig(7, s))
	certs := fourCerts(1, 2)
	certs[3].Sigs[15].Text = s
	ten := manyChanges(10, 1, 2)
	ten[9].Sig.Text = s
	return []api.Msg{
		{Kind: api.MRequest, Req: put("key", 1), Sigs: []api.Sig{sig(103, s)}},
		propose,
		prepareOf(at, sig(0, s)),
		prepareOf(api.Msg{Slot: 1}, sig(0, s)),
		{Kind: api.MVote, Slot: 4, Text: s, Next: upTo(4), Sigs: []api.Sig{sig(1, ""), sig(1, "x")}},
		{Kind: api.MVote, Slot: 4, Text: "t", Next: upTo(10), Sigs: []api.Sig{sig(1, s), sig(1, "x")}},
		{Kind: api.MVote, Slot: 4, Text: "t", Next: upTo(10), Sigs: []api.Sig{sig(1, "x"), sig(1, s)}},
		{Kind: api.MChange, View: 1, Changes: []api.Change{change(1, 1, sig(1, s))}},
		{Kind: api.MChange, Epoch: 1, View: 2, Changes: []api.Change{change(1, 2, sig(1, "x"), certs...)}},
		{Kind: api.MNewView, Epoch: 1, View: 2, Changes: ten},
		{Kind: api.MNewView, Epoch: 1, View: 2, Changes: []api.Change{change(1, 2, sig(1, "x"), certs...), change(2, 2, sig(1, "x"), certs[0])}},
		{Kind: api.MState, Epoch: 1, Slot: 4, Text: s, Links: links(1, 0)},
		{Kind: api.MState, Epoch: 1, Slot: 4, Text: "x", Sigs: []api.Sig{sig(1, s)}, Links: links(1, 0)},
		{Kind: api.MState, Epoch: lastEpoch, Slot: 240, Text: "x", Links: full},
	}
}

// Each of them with as many bytes as there may be, one less, one more, and many more.
func TestBytesOfTheLongest(t *testing.T) {
	for i, bare := range withText("-") {
		most := mostBytes - sizeOf(bare) + 1
		for _, x := range []struct {
			size int
			want api.Errno
		}{{most - 1, api.OK}, {most, api.OK}, {most + 1, api.ErrLong}, {65535, api.ErrLong}, {65536, api.ErrLong}, {65537, api.ErrLong}, {131072 + 5, api.ErrLong}, {1 << 20, api.ErrLong}} {
			m := withText(strings.Repeat("a", x.size))[i]
			expectError(t, "long", m, x.want)
			if s, _ := wire.Bytes(m); x.size == most && len(s) != mostBytes {
				t.Errorf("%d bytes, not %d", len(s), mostBytes)
			}
		}
	}
}

// Many texts that are too long together, though none of them is by itself.
func TestBytesLongTogether(t *testing.T) {
	for _, size := range []int{60, 63, 64, 65, 66, 70, 1000} {
		m := api.Msg{Kind: api.MState, Epoch: lastEpoch, Slot: 240, Text: "x", Links: links(lastEpoch, mostSigs)}
		for i := range m.Links {
			for j := range m.Links[i].Sigs {
				m.Links[i].Sigs[j].Text = strings.Repeat("s", size)
			}
		}
		expectBytes(t, "long together", m)
	}
	two := strings.Repeat("a", 32768)
	expectError(t, "two halves", api.Msg{Kind: api.MVote, Slot: 4, Text: two, Next: upTo(4), Sigs: []api.Sig{sig(1, two), sig(1, "")}}, api.ErrLong)
	three := strings.Repeat("a", 65535)
	expectError(t, "three", api.Msg{Kind: api.MVote, Slot: 4, Text: three, Next: upTo(4), Sigs: []api.Sig{sig(1, three), sig(1, three)}}, api.ErrLong)
}

// P13.1: of several errors the first one that the chapter names.
func TestErrorsInTheirOrder(t *testing.T) {
	long := strings.Repeat("a", 1<<17)
	for _, m := range withText(long) {
		expectError(t, "long", m, api.ErrLong)
		m.Epoch = -1
		expectError(t, "long and wrong", m, api.ErrField)
		m.Epoch = 61
		expectError(t, "long and wrong", m, api.ErrField)
		for _, kind := range []int{0, 11, -1, 12, 255, 256, 257, 266, math.MaxInt, math.MinInt} {
			m.Kind = kind
			expectError(t, "long, wrong, and of no kind", m, api.ErrKind)
		}
	}
	for _, kind := range []int{api.MCommit, api.MReply, api.MFetch} {
		expectError(t, "a long text that isn't asked", api.Msg{Kind: kind, Slot: 1, Text: long}, api.ErrField)
	}
}

func TestKinds(t *testing.T) {
	for _, kind := range []int{-1, 0, 11, 12, 100, 255, 256, 257, 258, 265, 266, 65537, math.MaxInt32, math.MaxInt, math.MinInt, math.MinInt + 9} {
		for _, m := range append(few(), api.Msg{}) {
			m.Kind = kind
			expectError(t, "no kind", m, api.ErrKind)
		}
	}
}

// P13.2: unlike messages have unlike bytes, and none of them is the beginning of another's.
func TestUnlikeBytes(t *testing.T) {
	byBytes := map[string]string{}
	for _, m := range append(fitting(), few()...) {
		s, e := wire.Bytes(m)
		if e != api.OK {
			t.Fatal(e)
		}
		p := plain(canon(m))
		if other, known := byBytes[s]; known && other != p {
			t.Errorf("%s and %s have one row of bytes", short(other), short(p))
		}
		byBytes[s] = p
	}
	for s := range byBytes {
		for n := range len(s) {
			if _, known := byBytes[s[:n]]; known {
				t.Errorf("%q is the beginning of another's", short(s[:n]))
			}
		}
	}
}
