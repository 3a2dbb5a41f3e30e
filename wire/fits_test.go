package wire_test

import (
	"math"
	"math/rand"
	"slices"
	"strings"
	"testing"

	"witan/api"
	"witan/wire"
)

// P13.1: which messages fit.

// edit changes one thing of a message that may be changed freely.
type edit struct {
	what string
	do   func(m *api.Msg)
}

// numberEdits answers other numbers in the place of a message's own.
func numberEdits() []edit {
	var list []edit
	for _, n := range []int{-1, 0, 1, 2, 59, 60, 61, 62, 255, 256, 65536, 65537, math.MaxInt, math.MinInt, math.MaxInt / 4, math.MinInt / 4, 1 << 62} {
		list = append(list, edit{"epoch", func(m *api.Msg) { m.Epoch = n }})
	}
	for _, n := range []int{-1, 0, 1, 14, 15, 16, 255, 256, 257, math.MaxInt, math.MinInt} {
		list = append(list, edit{"view", func(m *api.Msg) { m.View = n }})
	}
	for _, n := range []int{-1, 0, 1, 4, 65536, 65537, 65541, math.MaxInt, math.MinInt} {
		list = append(list, edit{"slot", func(m *api.Msg) { m.Slot = n }})
	}
	for n := -1; n <= 9; n++ {
		list = append(list, edit{"slot near the epoch's", func(m *api.Msg) { m.Slot = 4*m.Epoch + n }})
	}
	for kind := 1; kind <= 10; kind++ {
		list = append(list, edit{"kind", func(m *api.Msg) { m.Kind = kind }})
	}
	for _, n := range []int{-1, 1} {
		list = append(list, edit{"epoch with its slots", func(m *api.Msg) { m.Epoch, m.Slot = m.Epoch+n, m.Slot+4*n }})
	}
	return list
}

// partEdits answers other requests, results, texts and members.
func partEdits() []edit {
	var list []edit
	for _, r := range append(wrongRequests(), api.Request{}, get(), put("k", minusNought), join(3)) {
		list = append(list, edit{"request", func(m *api.Msg) { m.Req = r }})
	}
	for _, x := range []api.Result{{}, {Real: minusNought}, {Real: 1}, {Real: math.NaN()}, {Code: 1}, {Code: 8}, {Code: 9}, {Code: -1}, {Code: 256}, {Code: 255}, {Code: math.MinInt}} {
		list = append(list, edit{"result", func(m *api.Msg) { m.Result = x }})
	}
	for _, s := range []string{"", "x", "\x00", strings.Repeat("x", 3000)} {
		list = append(list, edit{"text", func(m *api.Msg) { m.Text = s }})
	}
	for _, next := range [][]int{nil, {}, {0}, upTo(3), upTo(4), upTo(10), upTo(11), {0, 1, 2, 2}, {3, 2, 1, 0}, {0, 1, 2, 16}, {-1, 0, 1, 2}, {0, 1, 2, 256}, {0, 0, 0, 0}, upTo(300)} {
		list = append(list, edit{"next", func(m *api.Msg) { m.Next = next }})
	}
	return list
}

// sigLists answers lists of signatures, right ones and wrong ones.
func sigLists() [][]api.Sig {
	list := [][]api.Sig{nil, {}}
	for _, count := range []int{1, 2, 3, 15, 16, 17, 18, 256, 257, 258} {
		list = append(list, sigs(count))
	}
	for _, by := range []int{-1, 0, 199, 200, 201, 255, 256, 257, math.MaxInt, math.MinInt} {
		list = append(list, []api.Sig{sig(by, "x")}, []api.Sig{sig(1, "x"), sig(by, "x")}, []api.Sig{sig(by, "x"), sig(1, "x")})
		at := sigs(16)
		at[15].By = by
		list = append(list, at)
	}
	return list
}

// listEdits answers other signatures, changes and links.
func listEdits() []edit {
	var list []edit
	for _, l := range sigLists() {
		list = append(list,
			edit{"sigs", func(m *api.Msg) { m.Sigs = l }},
			edit{"sigs of the first change", func(m *api.Msg) {
				m.Changes = slices.Clone(m.Changes)
				if len(m.Changes) > 0 {
					m.Changes[0].Certs = []api.Cert{cert(0, 4*m.Epoch+1, get(), l...)}
				}
			}},
			edit{"sigs of the last link", func(m *api.Msg) {
				m.Links = slices.Clone(m.Links)
				if n := len(m.Links); n > 0 {
					m.Links[n-1].Sigs = l
				}
			}})
	}
	for _, count := range []int{0, 1, 2, 10, 11, 12} {
		list = append(list, edit{"changes", func(m *api.Msg) { m.Changes = manyChanges(count, min(max(m.Epoch, 0), 60), m.View) }})
	}
	for _, by := range []int{-1, 0, 1, 2} {
		list = append(list,
			edit{"changes of another view", func(m *api.Msg) { m.Changes = manyChanges(2, 1, m.View+by) }},
			edit{"changes with another epoch's certs", func(m *api.Msg) { m.Changes = manyChanges(3, m.Epoch%100+by, m.View) }},
			edit{"other links", func(m *api.Msg) { m.Links = links(max(m.Epoch%100+by, 0), 1) }})
	}
	return append(list, edit{"one link", func(m *api.Msg) { m.Links = links(1, 0) }}, edit{"no links", func(m *api.Msg) { m.Links = nil }})
}

func allEdits() []edit { return slices.Concat(numberEdits(), partEdits(), listEdits()) }

// Each message with each one thing changed, and with each two of them.
func TestFitsWithEdits(t *testing.T) {
	edits := allEdits()
	for _, base := range few() {
		for i, first := range edits {
			m := copied(base)
			first.do(&m)
			expectBytes(t, first.what, m)
			for _, second := range edits[i+1:] {
				n := copied(m)
				second.do(&n)
				if _, e := wire.Bytes(n); e != modelErr(n) {
					t.Errorf("%s, %s: Bytes(%s) is %d", first.what, second.what, short(plain(n)), e)
				}
			}
		}
	}
}

func modelErr(m api.Msg) api.Errno {
	switch {
	case m.Kind < 1 || m.Kind > 10:
		return api.ErrKind
	case !modelFits(m):
		return api.ErrField
	}
	return api.OK
}

// Fields put together by chance.
func TestFitsByChance(t *testing.T) {
	roll := rand.New(rand.NewSource(13))
	edits, some := allEdits(), few()
	fit := 0
	for range 150000 {
		m := copied(some[roll.Intn(len(some))])
		for range roll.Intn(6) {
			edits[roll.Intn(len(edits))].do(&m)
		}
		_, e := wire.Bytes(m)
		if e != modelErr(m) {
			t.Errorf("Bytes(%s) is %d", short(plain(m)), e)
		}
		if e == api.OK {
			fit++
		}
	}
	if fit < 1000 {
		t.Errorf("just %d of them fit", fit)
	}
}

// expectMade takes a message that fits, changes it, and asks for this error.
func expectMade(t *testing.T, what string, base api.Msg, want api.Errno, change func(m *api.Msg)) {
	t.Helper()
	m := copied(base)
	change(&m)
	expectError(t, what, m, want)
	if want == api.OK {
		return
	}
	// Where each field has room in the bytes, nothing is read of them either.
	if hasRoom(m) {
		expectNone(t, what, layoutOf(m))
	}
}

// hasRoom tells if each number and each length stands in the message's bytes as it is, and not cut.
func hasRoom(m api.Msg) bool {
	small := func(n int) bool { return n >= 0 && n < 256 }
	ok := small(m.Kind) && m.Epoch >= 0 && m.Epoch < 65536 && small(m.View) && m.Slot >= 0 && m.Slot < 65536 &&
		roomFor(m.Req) && small(m.Result.Code) && len(m.Text) < 65536 && small(len(m.Next)) && small(len(m.Sigs)) && small(len(m.Changes)) && small(len(m.Links))
	for _, id := range m.Next {
		ok = ok && small(id)
	}
	for _, s := range modelTerms(m) {
		ok = ok && small(s.By) && len(s.Text) < 65536
	}
	for _, c := range m.Changes {
		ok = ok && small(c.From) && small(c.View) && small(len(c.Certs))
		for _, x := range c.Certs {
			ok = ok && small(x.View) && x.Slot >= 0 && x.Slot < 65536 && roomFor(x.Req) && small(len(x.Sigs))
		}
	}
	for _, l := range m.Links {
		ok = ok && l.Conf.Epoch >= 0 && l.Conf.Epoch < 65536 && small(len(l.Conf.Members)) && small(len(l.Sigs))
		for _, id := range l.Conf.Members {
			ok = ok && small(id)
		}
	}
	return ok && len(layoutOf(m)) <= mostBytes
}

func roomFor(r api.Request) bool {
	return r.Client >= 0 && r.Client < 256 && r.Stamp >= 0 && r.Stamp < 1<<32 && r.Op.Kind >= 0 && r.Op.Kind < 256 && r.Op.ID >= 0 && r.Op.ID < 256 && len(r.Op.Key) < 65536
}

// What each kind asks and what it doesn't, field by field, told without the model: for each kind a message that fits, and the fields that it has beside its kind and its epoch.
func TestFieldsThatAreNotAsked(t *testing.T) {
	named := map[int]string{
		api.MRequest: "req sigs", api.MPropose: "view slot req sigs", api.MPrepare: "view slot req sigs", api.MCommit: "view slot req",
		api.MVote: "slot text next sigs", api.MChange: "view changes", api.MNewView: "view changes", api.MReply: "req result", api.MFetch: "", api.MState: "slot text sigs links",
	}
	unasked := map[string][]func(m *api.Msg){
		"view":   {func(m *api.Msg) { m.View = 1 }, func(m *api.Msg) { m.View = -1 }, func(m *api.Msg) { m.View = 256 }},
		"slot":   {func(m *api.Msg) { m.Slot = 4*m.Epoch + 4 }, func(m *api.Msg) { m.Slot = 1 }, func(m *api.Msg) { m.Slot = -1 }, func(m *api.Msg) { m.Slot = 65536 }},
		"result": {func(m *api.Msg) { m.Result.Real = minusNought }, func(m *api.Msg) { m.Result.Code = 1 }, func(m *api.Msg) { m.Result.Real = 1 }, func(m *api.Msg) { m.Result.Real = math.NaN() }, func(m *api.Msg) { m.Result.Code = -1 }},
		"text":   {func(m *api.Msg) { m.Text = "x" }, func(m *api.Msg) { m.Text = "\x00" }},
		"next":   {func(m *api.Msg) { m.Next = upTo(4) }, func(m *api.Msg) { m.Next = []int{0} }},
		"sigs":   {func(m *api.Msg) { m.Sigs = sigs(1) }, func(m *api.Msg) { m.Sigs = sigs(2) }},
		"changes": {func(m *api.Msg) { m.Changes = manyChanges(1, 0, max(m.View, 1)) }, func(m *api.Msg) { m.Changes = []api.Change{{}} },
			func(m *api.Msg) { m.Changes = []api.Change{change(1, m.View, sig(1, ""))} }},
		"links": {func(m *api.Msg) { m.Links = links(max(m.Epoch, 1), 0) }, func(m *api.Msg) { m.Links = []api.Link{{}} }},
		"req": {func(m *api.Msg) { m.Req = get() }, func(m *api.Msg) { m.Req.Op.Real = minusNought }, func(m *api.Msg) { m.Req.Client = 1 },
			func(m *api.Msg) { m.Req.Stamp = 1 }, func(m *api.Msg) { m.Req.Op.Kind = 1 }, func(m *api.Msg) { m.Req.Op.Key = "k" }, func(m *api.Msg) { m.Req.Op.ID = 1 }},
	}
	for _, base := range append(few(), api.Msg{Kind: api.MFetch}) {
		for field, changes := range unasked {
			for _, change := range changes {
				if !slices.Contains(strings.Fields(named[base.Kind]), field) {
					expectMade(t, field, base, api.ErrField, change)
				}
			}
		}
	}
}

// Fields that a kind asks and that aren't there, or are out of their bounds by one.
func TestFieldsThatAreAsked(t *testing.T) {
	for _, base := range few() {
		for _, epoch := range []int{-1, lastEpoch + 1, 65536 + base.Epoch, math.MinInt, math.MaxInt} {
			expectMade(t, "epoch", base, api.ErrField, func(m *api.Msg) { m.Epoch = epoch })
		}
		switch base.Kind {
		case api.MRequest, api.MReply:
			expectMade(t, "no request", base, api.ErrField, func(m *api.Msg) { m.Req = api.Request{} })
		case api.MVote, api.MState:
			expectMade(t, "no text", base, api.ErrField, func(m *api.Msg) { m.Text = "" })
		case api.MChange, api.MNewView:
			expectMade(t, "no changes", base, api.ErrField, func(m *api.Msg) { m.Changes = nil })
		}
		if !modelNull(base.Req) {
			for _, r := range wrongRequests() {
				expectMade(t, "request", base, api.ErrField, func(m *api.Msg) { m.Req = r })
			}
		}
		if len(base.Sigs) > 0 {
			for _, by := range []int{-1, 200, 201, 255, 256, math.MinInt, math.MaxInt} {
				expectMade(t, "a wrong signature", base, api.ErrField, func(m *api.Msg) { m.Sigs[len(m.Sigs)-1].By = by })
				expectMade(t, "a wrong signature", base, api.ErrField, func(m *api.Msg) { m.Sigs[0].By = by })
			}
		}
	}
}

func TestRequestsAndReplies(t *testing.T) {
	request := api.Msg{Kind: api.MRequest, Req: get(), Sigs: sigs(1)}
	expectError(t, "request", request, api.OK)
	for _, epoch := range []int{1, 2, lastEpoch} {
		expectMade(t, "epoch", request, api.ErrField, func(m *api.Msg) { m.Epoch = epoch })
	}
	for _, count := range []int{0, 2, 3, 16, 17} {
		expectMade(t, "sigs", request, api.ErrField, func(m *api.Msg) { m.Sigs = sigs(count) })
	}
	reply := api.Msg{Kind: api.MReply, Req: get()}
	for _, epoch := range []int{0, 1, lastEpoch} {
		for code := range lastCode + 1 {
			expectMade(t, "reply", reply, api.OK, func(m *api.Msg) { m.Epoch, m.Result.Code = epoch, code })
		}
	}
	for _, code := range []int{-1, lastCode + 1, 255, 256, math.MinInt, math.MaxInt} {
		expectMade(t, "code", reply, api.ErrField, func(m *api.Msg) { m.Result.Code = code })
	}
	expectMade(t, "minus nought", reply, api.OK, func(m *api.Msg) { m.Result.Real = minusNought })
}

func TestProposalsPreparesAndCommits(t *testing.T) {
	for _, kind := range []int{api.MPropose, api.MPrepare, api.MCommit} {
		for _, req := range []api.Request{{}, get(), put("k", minusNought)} {
			for count := range 4 {
				want := api.ErrField
				if kind == api.MCommit && count == 0 || kind == api.MPrepare && count == 1 ||
					kind == api.MPropose && (req.Client == 0 && count == 0 || req.Client > 0 && count == 1) {
					want = api.OK
				}
				base := api.Msg{Kind: kind, Epoch: 7, View: 1, Slot: 30, Req: req, Sigs: sigs(count)}
				expectError(t, "sigs", base, want)
				if want != api.OK {
					continue
				}
				for epoch := range lastEpoch + 1 {
					for n := -5; n <= 10; n++ {
						want := api.ErrField
						if n >= 1 && n <= 4 {
							want = api.OK
						}
						expectMade(t, "slot", base, want, func(m *api.Msg) { m.Epoch, m.Slot = epoch, 4*epoch+n })
					}
				}
				for view := -2; view <= 20; view++ {
					want := api.ErrField
					if view >= 0 && view <= lastView {
						want = api.OK
					}
					expectMade(t, "view", base, want, func(m *api.Msg) { m.View = view })
				}
			}
		}
	}
}

func TestVotes(t *testing.T) {
	for epoch := range lastEpoch + 1 {
		base := api.Msg{Kind: api.MVote, Epoch: epoch, Slot: 4*epoch + 4, Text: "x", Next: upTo(4), Sigs: sigs(2)}
		expectError(t, "vote", base, api.OK)
		for _, n := range []int{-4, 0, 1, 3, 5, 8} {
			expectMade(t, "slot", base, api.ErrField, func(m *api.Msg) { m.Slot = 4*epoch + n })
		}
	}
	base := api.Msg{Kind: api.MVote, Epoch: 1, Slot: 8, Text: "x", Next: upTo(4), Sigs: sigs(2)}
	for _, count := range []int{0, 1, 3, 4, 16, 17} {
		expectMade(t, "sigs", base, api.ErrField, func(m *api.Msg) { m.Sigs = sigs(count) })
	}
	for _, next := range [][]int{nil, {}, upTo(1), upTo(3), upTo(11), upTo(16), {0, 1, 2, 16}, {-1, 1, 2, 3}, {0, 1, 1, 2}, {0, 2, 1, 3}, {3, 2, 1, 0}, {0, 1, 2, 3, 3}, {0, 1, 2, 3, 256}, upTo(256), upTo(260)} {
		expectMade(t, "next", base, api.ErrField, func(m *api.Msg) { m.Next = next })
	}
	for _, next := range [][]int{upTo(10), {12, 13, 14, 15}, {0, 2, 4, 6, 8, 10, 12, 13, 14, 15}} {
		expectMade(t, "next", base, api.OK, func(m *api.Msg) { m.Next = next })
	}
	expectMade(t, "the same signature twice", base, api.OK, func(m *api.Msg) { m.Sigs = []api.Sig{sig(1, "x"), sig(1, "x")} })
}

func TestChangesAndNewViews(t *testing.T) {
	one := api.Msg{Kind: api.MChange, Epoch: 2, View: 3, Changes: manyChanges(1, 2, 3)}
	many := api.Msg{Kind: api.MNewView, Epoch: 2, View: 3, Changes: manyChanges(5, 2, 3)}
	for count := range 20 {
		want := api.ErrField
		if count == 1 {
			want = api.OK
		}
		expectMade(t, "changes", one, want, func(m *api.Msg) { m.Changes = manyChanges(count, 2, 3) })
		want = api.ErrField
		if count >= 1 && count <= 10 {
			want = api.OK
		}
		expectMade(t, "new view", many, want, func(m *api.Msg) { m.Changes = manyChanges(count, 2, 3) })
		// Ones whose froms rise from 0 on, so that nothing but how many there are is asked.
		expectMade(t, "new view", many, want, func(m *api.Msg) {
			m.Changes = nil
			for from := range min(count, 16) {
				m.Changes = append(m.Changes, change(from, 3, sig(from, "")))
			}
		})
	}
	for _, base := range []api.Msg{one, many} {
		for view := -2; view <= 20; view++ {
			want := api.ErrField
			if view >= 1 && view <= lastView {
				want = api.OK
			}
			expectMade(t, "all of another view", base, want, func(m *api.Msg) {
				m.View = view
				for i := range m.Changes {
					m.Changes[i].View = view
				}
			})
			if view != 3 {
				expectMade(t, "view", base, api.ErrField, func(m *api.Msg) { m.View = view })
				expectMade(t, "a change's view", base, api.ErrField, func(m *api.Msg) { m.Changes[len(m.Changes)-1].View = view })
				expectMade(t, "a change's view", base, api.ErrField, func(m *api.Msg) { m.Changes[0].View = view })
			}
		}
		for _, from := range []int{-1, 16, 17, 255, 256, math.MinInt, math.MaxInt} {
			expectMade(t, "from", base, api.ErrField, func(m *api.Msg) { m.Changes[len(m.Changes)-1].From = from })
			expectMade(t, "from", base, api.ErrField, func(m *api.Msg) { m.Changes[0].From = from })
		}
		for _, by := range []int{-1, 200, 255, 256, math.MinInt, math.MaxInt} {
			expectMade(t, "a change's signature", base, api.ErrField, func(m *api.Msg) { m.Changes[len(m.Changes)-1].Sig.By = by })
			expectMade(t, "a change's signature", base, api.ErrField, func(m *api.Msg) { m.Changes[0].Sig.By = by })
		}
		expectMade(t, "a change's signature", base, api.OK, func(m *api.Msg) { m.Changes[0].Sig = sig(lastBy, "") })
	}
}

// New views whose froms don't rise, or come twice: every three of them.
func TestFroms(t *testing.T) {
	for a := range 16 {
		for b := range 16 {
			for _, c := range []int{0, 1, 7, 8, 14, 15} {
				want := api.ErrField
				if a < b && b < c {
					want = api.OK
				}
				expectError(t, "froms", api.Msg{Kind: api.MNewView, View: 1, Changes: []api.Change{change(a, 1, sig(a, "")), change(b, 1, sig(b, "")), change(c, 1, sig(c, ""))}}, want)
			}
		}
	}
}

// Certs of a change, in a message of either kind, in the first change and in the last.
func TestCerts(t *testing.T) {
	type row struct {
		what  string
		want  api.Errno
		certs []api.Cert
	}
	for _, epoch := range someEpochs() {
		first := 4*epoch + 1
		rows := []row{
			{"none", api.OK, nil},
			{"four", api.OK, fourCerts(epoch, 1)},
			{"five", api.ErrField, append(fourCerts(epoch, 1), cert(0, first+4, get()))},
			{"five, the last one twice", api.ErrField, append(fourCerts(epoch, 1), cert(0, first+3, get()))},
			{"one twice", api.ErrField, []api.Cert{cert(0, first, get()), cert(1, first, get())}},
			{"the last twice", api.ErrField, []api.Cert{cert(0, first, get()), cert(1, first+3, get()), cert(1, first+3, get())}},
			{"falling", api.ErrField, []api.Cert{cert(0, first+1, get()), cert(0, first, get())}},
			{"sixteen signatures", api.OK, []api.Cert{cert(0, first, get(), sigs(16)...)}},
			{"seventeen signatures", api.ErrField, []api.Cert{cert(0, first, get(), sigs(17)...)}},
			{"seventeen of the last", api.ErrField, []api.Cert{cert(0, first, get()), cert(0, first+3, get(), sigs(17)...)}},
			{"by 199", api.OK, []api.Cert{cert(0, first, get(), sig(199, ""))}},
		}
		for n := -5; n <= 10; n++ {
			want := api.ErrField
			if n >= 0 && n <= 3 {
				want = api.OK
			}
			rows = append(rows, row{"slot", want, []api.Cert{cert(0, first+n, get())}})
		}
		for view := -1; view <= 17; view++ {
			want := api.ErrField
			if view >= 0 && view <= 15 {
				want = api.OK
			}
			rows = append(rows, row{"view", want, []api.Cert{cert(view, first, get())}}, row{"view of the second", want, []api.Cert{cert(0, first, get()), cert(view, first+1, get())}})
		}
		for _, by := range []int{-1, 200, 256} {
			rows = append(rows, row{"by", api.ErrField, []api.Cert{cert(0, first, get(), sig(1, ""), sig(by, ""))}})
		}
		for _, r := range wrongRequests() {
			rows = append(rows, row{"request", api.ErrField, []api.Cert{cert(0, first, r)}}, row{"request", api.ErrField, []api.Cert{cert(0, first, get()), cert(0, first+1, r)}})
		}
		for _, r := range append(rightRequests(), api.Request{}) {
			rows = append(rows, row{"request", api.OK, []api.Cert{cert(0, first, r)}})
		}
		for _, x := range rows {
			expectError(t, x.what, api.Msg{Kind: api.MChange, Epoch: epoch, View: 1, Changes: []api.Change{change(0, 1, sig(0, ""), x.certs...)}}, x.want)
			expectError(t, x.what, api.Msg{Kind: api.MNewView, Epoch: epoch, View: 1, Changes: []api.Change{change(0, 1, sig(0, ""), x.certs...), change(1, 1, sig(0, ""))}}, x.want)
			expectError(t, x.what, api.Msg{Kind: api.MNewView, Epoch: epoch, View: 1, Changes: []api.Change{change(0, 1, sig(0, "")), change(1, 1, sig(0, ""), x.certs...)}}, x.want)
		}
	}
}

func TestStates(t *testing.T) {
	expectError(t, "the epoch 0", api.Msg{Kind: api.MState, Text: "x"}, api.ErrField)
	expectError(t, "the epoch 0 with a link", api.Msg{Kind: api.MState, Text: "x", Links: links(1, 0)}, api.ErrField)
	for epoch := 1; epoch <= lastEpoch; epoch++ {
		base := api.Msg{Kind: api.MState, Epoch: epoch, Slot: 4 * epoch, Text: "x", Links: links(epoch, 1)}
		expectError(t, "state", base, api.OK)
		for _, n := range []int{-4, -1, 1, 4} {
			expectMade(t, "slot", base, api.ErrField, func(m *api.Msg) { m.Slot = 4*epoch + n })
		}
		for _, count := range []int{0, epoch - 1, epoch + 1, epoch + 2} {
			expectMade(t, "links", base, api.ErrField, func(m *api.Msg) { m.Links = links(count, 1) })
		}
		for _, at := range []int{0, epoch / 2, epoch - 1} {
			for _, n := range []int{-1, 1, 65536, -at - 1} {
				expectMade(t, "a link's epoch", base, api.ErrField, func(m *api.Msg) { m.Links[at].Conf.Epoch += n })
			}
			for _, members := range [][]int{nil, upTo(3), upTo(11), {0, 1, 2, 16}, {-1, 0, 1, 2}, {0, 1, 1, 2}, {1, 0, 2, 3}, {0, 1, 2, 259}} {
				expectMade(t, "a link's members", base, api.ErrField, func(m *api.Msg) { m.Links[at].Conf.Members = members })
			}
			for _, by := range []int{-1, 200, 256} {
				expectMade(t, "a link's signature", base, api.ErrField, func(m *api.Msg) { m.Links[at].Sigs[0].By = by })
			}
			expectMade(t, "a link's signatures", base, api.OK, func(m *api.Msg) { m.Links[at].Sigs = sigs(16) })
			expectMade(t, "a link's signatures", base, api.OK, func(m *api.Msg) { m.Links[at].Sigs = nil })
			expectMade(t, "a link's signatures", base, api.ErrField, func(m *api.Msg) { m.Links[at].Sigs = sigs(17) })
		}
	}
	expectError(t, "sixty-one", api.Msg{Kind: api.MState, Epoch: 61, Slot: 244, Text: "x", Links: links(61, 0)}, api.ErrField)
	base := api.Msg{Kind: api.MState, Epoch: 2, Slot: 8, Text: "x", Links: links(2, 0)}
	for count := range 20 {
		want := api.OK
		if count > mostSigs {
			want = api.ErrField
		}
		expectMade(t, "signatures", base, want, func(m *api.Msg) { m.Sigs = sigs(count) })
	}
	expectMade(t, "links that are swapped", base, api.ErrField, func(m *api.Msg) { m.Links[0], m.Links[1] = m.Links[1], m.Links[0] })
}

// Lists that are very long are refused by their length.
func TestVeryLongLists(t *testing.T) {
	const many = 1 << 20
	for _, base := range few() {
		expectErr := func(m api.Msg) {
			t.Helper()
			if s, e := wire.Bytes(m); s != "" || e != api.ErrField {
				t.Errorf("kind %d: %d bytes, %d", base.Kind, len(s), e)
			}
		}
		m := base
		m.Sigs = make([]api.Sig, many)
		expectErr(m)
		m = base
		m.Next = make([]int, many)
		expectErr(m)
		m = base
		m.Changes = make([]api.Change, many)
		expectErr(m)
		m = base
		m.Links = make([]api.Link, many)
		expectErr(m)
	}
}
