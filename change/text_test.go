package change_test

import (
	"fmt"
	"math"
	"slices"
	"strings"
	"testing"

	"witan/api"
	"witan/change"
	"witan/wire"
)

// P16.1: a change's text.

// Byte by byte.
func TestTextWrittenOut(t *testing.T) {
	for _, x := range []struct {
		epoch int
		c     api.Change
		want  string
	}{
		{2, api.Change{From: 3, View: 1}, "V\x00\x02\x03\x01\x00"},
		{60, api.Change{From: 15, View: 15, Certs: []api.Cert{}}, "V\x00\x3c\x0f\x0f\x00"},
		{0, api.Change{View: 1, Certs: []api.Cert{{Slot: 1}}}, "V\x00\x00\x00\x01\x01" + "\x00\x00\x01\x00\x01\x00\x00"},
		{60, api.Change{From: 4, View: 9, Certs: []api.Cert{{View: 15, Slot: 244, Sigs: []api.Sig{{By: 199, Text: "ab"}, {}}}}},
			"V\x00\x3c\x04\x09\x01" + "\x0f\x00\xf4\x00\x01\x00\x02" + "\xc7\x00\x02ab" + "\x00\x00\x00"},
		{1, api.Change{From: 2, View: 3, Certs: []api.Cert{
			{View: 2, Slot: 5, Req: get("k"), Sigs: []api.Sig{{By: 7, Text: "x"}}},
			{View: 0, Slot: 8, Req: put("y", math.NaN())},
		}},
			"V\x00\x01\x02\x03\x02" +
				"\x02\x00\x05\x00\x13" + "\x01\x02\x00\x00\x00\x03\x05\x00\x01k\x00\x00\x00\x00\x00\x00\x00\x00\x00" + "\x01\x07\x00\x01x" +
				"\x00\x00\x08\x00\x13" + "\x01\x01\x00\x00\x00\x01\x01\x00\x01y\x7f\xf8\x00\x00\x00\x00\x00\x00\x00" + "\x00"},
	} {
		if got, e := change.Text(x.epoch, x.c); got != x.want || e != api.OK {
			t.Errorf("Text(%d, %s): %q %d, not %q", x.epoch, short(x.c), got, e, x.want)
		}
	}
}

// full answers a change that fits the epoch, with a certificate of each slot.
func full(epoch int) api.Change {
	s := slotsOf(epoch)
	return api.Change{From: 2, View: 3, Certs: []api.Cert{
		{View: 2, Slot: s[0], Req: get("k"), Sigs: signatures("x", 1, 2, 3)},
		{View: 0, Slot: s[1], Req: null(), Sigs: signatures("", 0, 199)},
		{View: 15, Slot: s[2], Req: put("k", 1.5), Sigs: signatures("w", 101)},
		{View: 3, Slot: s[3], Req: join(7), Sigs: signatures("yy", firstOf(16)...)},
	}, Sig: api.Sig{By: 2, Text: "z"}}
}

// with answers the full change of the epoch with something else in it.
func with(epoch int, alter func(x *api.Change)) api.Change {
	x := full(epoch)
	alter(&x)
	return x
}

func TestTextOfEachEpoch(t *testing.T) {
	for epoch := range lastEpoch + 1 {
		expectText(t, "full", epoch, full(epoch), api.OK)
		expectText(t, "none", epoch, api.Change{View: 1}, api.OK)
		for set := range 1 << interval {
			x := full(epoch)
			x.Certs, _ = chosen(x.Certs, set)
			expectText(t, fmt.Sprint(set), epoch, x, api.OK)
		}
	}
}

func TestTextOfNoEpoch(t *testing.T) {
	for _, epoch := range []int{-1, -2, 61, 62, 255, 256, 65535, 65536, 65537, 1 << 32, math.MinInt, math.MaxInt, math.MaxInt / 4, math.MinInt / 4} {
		for _, x := range []api.Change{{View: 1}, {From: 3, View: 15}, full(0), full(60), full(epoch), {}} {
			expectText(t, "no epoch", epoch, x, api.ErrArg)
		}
	}
}

func TestTextOfEachFromAndView(t *testing.T) {
	for from := -2; from < 20; from++ {
		for view := -2; view < 20; view++ {
			want := api.ErrArg
			if from >= 0 && from <= 15 && view >= 1 && view <= 15 {
				want = api.OK
			}
			for epoch := range 3 {
				x := full(epoch)
				x.From, x.View = from, view
				expectText(t, "from and view", epoch, x, want)
				expectText(t, "from and view", epoch, api.Change{From: from, View: view}, want)
			}
		}
	}
	for _, n := range []int{256, 257, 1 << 32, 1<<32 + 1, math.MinInt, math.MaxInt, -256} {
		expectText(t, "from", 1, with(1, func(x *api.Change) { x.From = n }), api.ErrArg)
		expectText(t, "view", 1, with(1, func(x *api.Change) { x.View = n }), api.ErrArg)
	}
}

// Its slots are the epoch's four, and rise; a certificate's view is 0 to 15, also above the change's.
func TestTextOfEachSlotAndView(t *testing.T) {
	for _, epoch := range []int{0, 1, 30, 60} {
		for slot := 4*epoch - 3; slot < 4*epoch+9; slot++ {
			want := api.ErrArg
			if slot >= 4*epoch+1 && slot <= 4*epoch+4 {
				want = api.OK
			}
			for _, r := range []api.Request{null(), get("k")} {
				expectText(t, "slot", epoch, api.Change{View: 2, Certs: []api.Cert{{Slot: slot, Req: r}}}, want)
			}
		}
		for _, slot := range []int{math.MinInt, math.MaxInt, 1 << 32, 1<<32 + 4*epoch + 1, 1<<16 + 4*epoch + 1, 256 + 4*epoch + 1, -(4*epoch + 1)} {
			expectText(t, "slot", epoch, api.Change{View: 2, Certs: []api.Cert{{Slot: slot}}}, api.ErrArg)
		}
	}
	for view := -2; view < 20; view++ {
		want := api.ErrArg
		if view >= 0 && view <= 15 {
			want = api.OK
		}
		for at := range interval {
			expectText(t, "cert's view", 1, with(1, func(x *api.Change) { x.Certs[at].View = view }), want)
		}
	}
	for _, view := range []int{256, 1 << 32, math.MinInt, math.MaxInt} {
		expectText(t, "cert's view", 1, with(1, func(x *api.Change) { x.Certs[2].View = view }), api.ErrArg)
	}
}

// Every row of up to five slots from a few ones: just those that rise fit.
func TestTextOfEachRowOfSlots(t *testing.T) {
	var tryAll func(certs []api.Cert)
	tryAll = func(certs []api.Cert) {
		want := api.OK
		for i, c := range certs {
			if c.Slot < 5 || c.Slot > 8 || i > 0 && certs[i-1].Slot >= c.Slot {
				want = api.ErrArg
			}
		}
		expectText(t, "row", 1, api.Change{View: 1, Certs: certs}, want)
		if len(certs) == 5 {
			return
		}
		for slot := 4; slot <= 9; slot++ {
			tryAll(append(slices.Clone(certs), api.Cert{Slot: slot}))
		}
	}
	tryAll(nil)
	expectText(t, "very many", 1, api.Change{View: 1, Certs: make([]api.Cert, 1000000)}, api.ErrArg)
}

func TestTextOfEachRequest(t *testing.T) {
	for at := range interval {
		for _, r := range unlike() {
			expectText(t, "request", 1, with(1, func(x *api.Change) { x.Certs[at].Req = r }), api.OK)
		}
		for _, x := range nans() {
			expectText(t, "NaN", 1, with(1, func(c *api.Change) { c.Certs[at].Req = put("k", x) }), api.OK)
		}
		for _, r := range neither() {
			expectText(t, "request", 1, with(1, func(x *api.Change) { x.Certs[at].Req = r }), api.ErrArg)
		}
	}
}

func TestTextOfSignatures(t *testing.T) {
	for at := range interval {
		for n := range 20 {
			want := api.OK
			if n > mostSigs {
				want = api.ErrArg
			}
			expectText(t, "how many", 1, with(1, func(x *api.Change) { x.Certs[at].Sigs = slices.Repeat(signatures("x", 3), n) }), want)
		}
		for _, by := range []int{0, 1, 15, 16, 99, 100, 101, 108, 109, 198, 199} {
			for place := range 3 {
				expectText(t, "by", 1, with(1, func(x *api.Change) {
					x.Certs[at].Sigs = signatures("x", 3, 3, 3)
					x.Certs[at].Sigs[place].By = by
				}), api.OK)
			}
		}
		for _, by := range []int{-1, -2, 200, 201, 255, 256, 257, 1 << 32, math.MinInt, math.MaxInt} {
			for place := range 3 {
				expectText(t, "by", 1, with(1, func(x *api.Change) {
					x.Certs[at].Sigs = signatures("x", 3, 3, 3)
					x.Certs[at].Sigs[place].By = by
				}), api.ErrArg)
			}
		}
	}
	expectText(t, "very many", 1, with(1, func(x *api.Change) { x.Certs[0].Sigs = make([]api.Sig, 1000000) }), api.ErrArg)
}

// anySigs answers signatures of a change, fitting or not.
func anySigs() []api.Sig {
	return []api.Sig{
		{}, {By: 2}, {By: -1}, {By: 200, Text: "x"}, {By: math.MinInt}, {By: math.MaxInt, Text: "y"}, {By: 1 << 32},
		{By: 2, Text: strings.Repeat("x", 65535)}, {By: 2, Text: strings.Repeat("x", 65536)}, {Text: strings.Repeat("x", 1000000)},
	}
}

// Its own Sig isn't in its text, and may be any.
func TestTextWhateverItsSig(t *testing.T) {
	for _, epoch := range []int{0, 7, 60} {
		for _, s := range anySigs() {
			for _, x := range []api.Change{{From: 3, View: 1}, full(epoch)} {
				bare := x
				bare.Sig, x.Sig = api.Sig{}, s
				got, e := askText(t, epoch, x)
				want, _ := askText(t, epoch, bare)
				if e != api.OK || got != want {
					t.Errorf("%s: %d", short(s), e)
				}
			}
		}
	}
}

// long answers a change whose text has so many bytes, in the Sigs of its certificates.
func long(epoch, certs, sigs, size int) api.Change {
	x := api.Change{From: 1, View: 2}
	for _, slot := range slotsOf(epoch)[:certs] {
		x.Certs = append(x.Certs, api.Cert{View: 1, Slot: slot, Req: get("k"), Sigs: signatures("", firstOf(sigs)...)})
	}
	rest := size - sizeOf(x)
	each := rest / (certs * sigs)
	for _, c := range x.Certs {
		for i := range c.Sigs {
			c.Sigs[i].Text = strings.Repeat("s", each)
			rest -= each
		}
	}
	x.Certs[certs-1].Sigs[sigs-1].Text += strings.Repeat("t", rest)
	return x
}

// It has up to 65535 bytes, wherever they are.
func TestTextOfManyBytes(t *testing.T) {
	for certs := 1; certs <= interval; certs++ {
		for _, sigs := range []int{1, 2, 3, 10, 16} {
			for _, size := range []int{5000, 65000, 65534, 65535} {
				if got, e := askText(t, 3, long(3, certs, sigs, size)); len(got) != size || e != api.OK {
					t.Errorf("%d %d: %d bytes, not %d; %d", certs, sigs, len(got), size, e)
				}
			}
			for _, size := range []int{65536, 65537, 65538, 65600, 131070, 131072, 300000} {
				expectText(t, "long", 3, long(3, certs, sigs, size), api.ErrLong)
			}
		}
	}
	for _, size := range []int{65520, 65535, 65536, 65537, 1 << 20} {
		x := api.Change{From: 1, View: 2, Certs: []api.Cert{{Slot: 1, Sigs: []api.Sig{{Text: strings.Repeat("x", size)}}}}}
		expectText(t, "one text", 0, x, api.ErrLong)
	}
	x := api.Change{From: 1, View: 2, Certs: []api.Cert{{Slot: 1, Sigs: []api.Sig{{Text: strings.Repeat("x", 65519)}}}}}
	expectText(t, "one text", 0, x, api.OK)
}

// Where it is too long and doesn't fit either, ErrArg is told: it is named first, wherever what is wrong stands.
func TestTextThatIsLongAndDoesntFit(t *testing.T) {
	for name, alter := range map[string]func(x *api.Change){
		"from":    func(x *api.Change) { x.From = 16 },
		"view":    func(x *api.Change) { x.View = 0 },
		"slot":    func(x *api.Change) { x.Certs[3].Slot = 9 },
		"request": func(x *api.Change) { x.Certs[3].Req = get("") },
		"by":      func(x *api.Change) { x.Certs[3].Sigs[1].By = 200 },
		"sigs":    func(x *api.Change) { x.Certs[3].Sigs = make([]api.Sig, 17) },
	} {
		x := long(1, 4, 2, 100000)
		expectText(t, "long alone", 1, x, api.ErrLong)
		expectText(t, "another epoch", 0, x, api.ErrArg)
		expectText(t, "no epoch", -1, x, api.ErrArg)
		alter(&x)
		expectText(t, name, 1, x, api.ErrArg)
	}
}

// alterations answers changes of the epoch 1 that fit, each unlike the full one, and unlike each other, in one place alone.
func alterations() []api.Change {
	all := []api.Change{full(1)}
	add := func(alter func(x *api.Change)) { all = append(all, with(1, alter)) }
	for from := range ids {
		if from != 2 {
			add(func(x *api.Change) { x.From = from })
		}
	}
	for view := 1; view <= lastView; view++ {
		if view != 3 {
			add(func(x *api.Change) { x.View = view })
		}
	}
	for at := range interval {
		add(func(x *api.Change) { x.Certs = slices.Delete(x.Certs, at, at+1) })
		add(func(x *api.Change) { x.Certs = x.Certs[at : at+1] })
		for view := range lastView + 1 {
			if view != full(1).Certs[at].View {
				add(func(x *api.Change) { x.Certs[at].View = view })
			}
		}
		for _, r := range append(unlike(), put("l", 2.5)) {
			if !isSameRequest(r, full(1).Certs[at].Req) {
				add(func(x *api.Change) { x.Certs[at].Req = r })
			}
		}
		for _, sigs := range [][]api.Sig{
			nil, signatures("x", 1), signatures("x", 1, 2), signatures("x", 1, 3), signatures("x", 1, 2, 4), signatures("x", 3, 2, 1), signatures("x", 1, 1, 2, 3), signatures("x", 1, 2, 3, 199),
			signatures("X", 1, 2, 3), signatures("", 1, 2, 3), {{By: 1, Text: "x"}, {By: 2, Text: "x"}, {By: 3, Text: "xx"}}, {{By: 1, Text: "x"}, {By: 2}, {By: 3, Text: "x"}},
			{{By: 1, Text: "x\x02\x00\x01x"}, {By: 3, Text: "x"}}, {{By: 1, Text: "x\x02\x00\x01x\x03\x00\x01x"}},
		} {
			add(func(x *api.Change) { x.Certs[at].Sigs = sigs })
		}
	}
	all = append(all, api.Change{From: 2, View: 3})
	for slot := 5; slot <= 8; slot++ {
		all = append(all, api.Change{From: 2, View: 3, Certs: []api.Cert{{View: 1, Slot: slot, Req: get("k"), Sigs: signatures("x", 1)}}})
	}
	return all
}

// Two changes that are unlike in one place alone have unlike texts; so have one change in two epochs, and no one's text begins another one's.
func TestUnlikeChangesHaveUnlikeTexts(t *testing.T) {
	seen := map[string]int{}
	var texts []string
	for i, x := range alterations() {
		text, e := askText(t, 1, x)
		if e != api.OK {
			t.Fatal(i, e)
		}
		if k, known := seen[text]; known {
			t.Errorf("one text: %s and %s", short(alterations()[k]), short(x))
		}
		seen[text] = i
		texts = append(texts, text)
	}
	slices.Sort(texts)
	for i := 1; i < len(texts); i++ {
		if strings.HasPrefix(texts[i], texts[i-1]) {
			t.Errorf("%q begins %q", texts[i-1], texts[i])
		}
	}
	epochs := map[string]bool{}
	for epoch := range lastEpoch + 1 {
		text, _ := askText(t, epoch, api.Change{From: 2, View: 3})
		epochs[text] = true
	}
	if len(epochs) != lastEpoch+1 {
		t.Error(len(epochs))
	}
}

// Changes that are the same have one text: a real counts by its bits, and an empty list may be nil or not.
func TestTheSameChangesHaveOneText(t *testing.T) {
	var texts []string
	for _, x := range nans() {
		text, _ := askText(t, 0, api.Change{From: 1, View: 1, Certs: []api.Cert{{Slot: 2, Req: put("k", x)}}})
		texts = append(texts, text)
	}
	if len(slices.Compact(texts)) != 1 {
		t.Errorf("%q", texts)
	}
	noughts := []string{}
	for _, x := range []float64{0, minusNought} {
		text, _ := askText(t, 0, api.Change{From: 1, View: 1, Certs: []api.Cert{{Slot: 2, Req: put("k", x)}}})
		noughts = append(noughts, text)
	}
	if noughts[0] == noughts[1] || noughts[0] == "" {
		t.Errorf("%q", noughts)
	}
	one, _ := askText(t, 0, api.Change{From: 1, View: 1, Certs: []api.Cert{{Slot: 2}}})
	two, _ := askText(t, 0, api.Change{From: 1, View: 1, Certs: []api.Cert{{Slot: 2, Sigs: []api.Sig{}}}})
	if one != two || one == "" {
		t.Errorf("%q %q", one, two)
	}
}

// What fits is what layer 13 takes for a change, if its Sig fits.
func TestTextFitsAsLayer13Has(t *testing.T) {
	all := alterations()
	for _, slot := range []int{4, 5, 6, 7, 8, 9} {
		all = append(all, with(1, func(x *api.Change) { x.Certs[0].Slot = slot }), with(1, func(x *api.Change) { x.Certs[3].Slot = slot }))
	}
	for _, n := range []int{-1, 16, 200} {
		all = append(all, with(1, func(x *api.Change) { x.From = n }), with(1, func(x *api.Change) { x.Certs[1].View = n }), with(1, func(x *api.Change) { x.Certs[1].Sigs[1].By = n }))
	}
	for _, r := range neither() {
		all = append(all, with(1, func(x *api.Change) { x.Certs[1].Req = r }))
	}
	for _, x := range all {
		_, e := askText(t, 1, x)
		_, f := wire.Bytes(api.Msg{Kind: api.MChange, Epoch: 1, View: x.View, Changes: []api.Change{x}})
		if (e == api.OK) != (f == api.OK) {
			t.Errorf("%s: %d, and layer 13 has %d", short(x), e, f)
		}
	}
}
