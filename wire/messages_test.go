package wire_test

import (
	"math"
	"strings"

	"witan/api"
)

func sig(by int, text string) api.Sig { return api.Sig{By: by, Text: text} }

func sigs(count int) []api.Sig {
	var list []api.Sig
	for i := range count {
		list = append(list, sig((i*83)%200, strings.Repeat("s", i%3)))
	}
	return list
}

func conf(epoch int, members ...int) api.Conf { return api.Conf{Epoch: epoch, Members: members} }

func upTo(count int) []int {
	var list []int
	for id := range count {
		list = append(list, id)
	}
	return list
}

func links(count, sigsEach int) []api.Link {
	var list []api.Link
	for i := range count {
		list = append(list, api.Link{Conf: conf(i+1, upTo(4+i%7)...), Sigs: sigs(sigsEach)})
	}
	return list
}

func put(key string, x float64) api.Request {
	return api.Request{Client: 3, Stamp: 70000, Op: api.Op{Kind: api.OpPut, Key: key, Real: x}}
}

func get() api.Request {
	return api.Request{Client: 1, Stamp: 1, Op: api.Op{Kind: api.OpGet, Key: "k"}}
}

func join(id int) api.Request {
	return api.Request{Client: lastClient, Stamp: lastStamp, Op: api.Op{Kind: api.OpJoin, ID: id}}
}

// someReals answers the edges of reals, a NaN that isn't the one among them.
func someReals() []float64 {
	return []float64{0, minusNought, 1.5, -1, math.Inf(1), math.Inf(-1), math.NaN(), math.Float64frombits(0xFFF0000000000123), math.SmallestNonzeroFloat64, math.MaxFloat64}
}

// rightRequests answers right ones of each kind of operation.
func rightRequests() []api.Request {
	list := []api.Request{
		get(), join(0), join(lastID),
		{Client: 2, Stamp: 255, Op: api.Op{Kind: api.OpCut, Key: strings.Repeat("\x00", lastKey)}},
		{Client: 7, Stamp: 256, Op: api.Op{Kind: api.OpLeave, ID: 9}},
		{Client: 4, Stamp: 65536, Op: api.Op{Kind: api.OpAdd, Key: "\xff", Real: 2}},
		{Client: 5, Stamp: 65535, Op: api.Op{Kind: api.OpMax, Key: "0123456789abcdef", Real: -2}},
	}
	for _, x := range someReals() {
		list = append(list, put("k", x))
	}
	return list
}

// wrongRequests answers some that are neither right nor null.
func wrongRequests() []api.Request {
	return []api.Request{
		{Client: 1}, {Stamp: 1}, {Client: -1}, {Stamp: -1},
		{Op: api.Op{Kind: api.OpGet}}, {Op: api.Op{Kind: -1}}, {Op: api.Op{Key: "k"}}, {Op: api.Op{ID: 1}}, {Op: api.Op{ID: -1}},
		{Op: api.Op{Real: minusNought}}, {Op: api.Op{Real: 1}}, {Op: api.Op{Real: math.NaN()}},
		{Client: 0, Stamp: 1, Op: get().Op}, {Client: 9, Stamp: 1, Op: get().Op}, {Client: 257, Stamp: 1, Op: get().Op},
		{Client: 1, Stamp: 0, Op: get().Op}, {Client: 1, Stamp: lastStamp + 1, Op: get().Op}, {Client: 1, Stamp: 1<<32 + 1, Op: get().Op},
		{Client: 1, Stamp: 1}, {Client: 1, Stamp: 1, Op: api.Op{Kind: 8, Key: "k"}},
		{Client: 1, Stamp: 1, Op: api.Op{Kind: api.OpPut}}, put(strings.Repeat("k", lastKey+1), 1),
		{Client: 1, Stamp: 1, Op: api.Op{Kind: api.OpPut, Key: "k", ID: 1}},
		{Client: 1, Stamp: 1, Op: api.Op{Kind: api.OpGet, Key: "k", Real: minusNought}},
		{Client: 1, Stamp: 1, Op: api.Op{Kind: api.OpCut, Key: "k", Real: 1}},
		{Client: 1, Stamp: 1, Op: api.Op{Kind: api.OpJoin, Real: minusNought}},
		{Client: 1, Stamp: 1, Op: api.Op{Kind: api.OpJoin, Key: "k"}}, join(lastID + 1), join(-1),
	}
}

func rightResults() []api.Result {
	var list []api.Result
	for code := range lastCode + 1 {
		for _, x := range someReals() {
			list = append(list, api.Result{Code: code, Real: x})
		}
	}
	return list
}

func cert(view, slot int, r api.Request, s ...api.Sig) api.Cert {
	return api.Cert{View: view, Slot: slot, Req: r, Sigs: s}
}

func change(from, view int, s api.Sig, certs ...api.Cert) api.Change {
	return api.Change{From: from, View: view, Certs: certs, Sig: s}
}

// fourCerts answers one for each slot of the epoch, unlike one another.
func fourCerts(epoch, view int) []api.Cert {
	first := interval*epoch + 1
	return []api.Cert{
		cert(0, first, api.Request{}),
		cert(view, first+1, get(), sig(0, "")),
		cert(lastView, first+2, put("key", minusNought), sigs(2)...),
		cert(1, first+3, join(15), sigs(mostSigs)...),
	}
}

// manyChanges answers that many, rising, with none to four certs.
func manyChanges(count, epoch, view int) []api.Change {
	var list []api.Change
	for i := range count {
		list = append(list, change(i*lastID/max(count-1, 1), view, sig(i, "change"), fourCerts(epoch, view)[:i%5]...))
	}
	return list
}

// someEpochs, someViews, someSlots answer the edges.
func someEpochs() []int { return []int{0, 1, 2, 31, lastEpoch} }

func someViews() []int { return []int{0, 1, 7, lastView} }

func slotsOf(epoch int) []int {
	return []int{4*epoch + 1, 4*epoch + 2, 4*epoch + 3, 4*epoch + 4}
}

// ordered answers messages of the kinds that place a request in a slot.
func ordered() []api.Msg {
	var list []api.Msg
	for _, epoch := range someEpochs() {
		for _, view := range someViews() {
			for i, slot := range slotsOf(epoch) {
				at := api.Msg{Epoch: epoch, View: view, Slot: slot}
				for _, r := range []api.Request{{}, get(), rightRequests()[(i+view+epoch)%len(rightRequests())]} {
					at.Req = r
					list = append(list, commitOf(at), prepareOf(at, sig(lastBy, "p")), proposeOf(at))
				}
			}
		}
	}
	for _, r := range rightRequests() {
		at := api.Msg{Epoch: 2, View: 3, Slot: 11, Req: r}
		list = append(list, commitOf(at), prepareOf(at, sig(0, "")), proposeOf(at))
	}
	return list
}

func commitOf(at api.Msg) api.Msg {
	at.Kind = api.MCommit
	return at
}

func prepareOf(at api.Msg, s api.Sig) api.Msg {
	at.Kind, at.Sigs = api.MPrepare, []api.Sig{s}
	return at
}

func proposeOf(at api.Msg) api.Msg {
	at.Kind = api.MPropose
	if at.Req.Client > 0 {
		at.Sigs = []api.Sig{sig(100+at.Req.Client, "asked")}
	}
	return at
}

// asked answers requests and replies.
func asked() []api.Msg {
	var list []api.Msg
	for i, r := range rightRequests() {
		list = append(list, api.Msg{Kind: api.MRequest, Req: r, Sigs: []api.Sig{sig(100+i%9, strings.Repeat("r", i))}})
		for _, epoch := range someEpochs() {
			list = append(list, api.Msg{Kind: api.MReply, Epoch: epoch, Req: r, Result: api.Result{Code: i % 9}})
		}
	}
	for _, x := range rightResults() {
		list = append(list, api.Msg{Kind: api.MReply, Epoch: 5, Req: get(), Result: x})
	}
	return list
}

// voted answers votes.
func voted() []api.Msg {
	var list []api.Msg
	for _, epoch := range someEpochs() {
		for count := 4; count <= 10; count++ {
			next := upTo(count)
			next[count-1] = lastID
			list = append(list, api.Msg{Kind: api.MVote, Epoch: epoch, Slot: 4*epoch + 4, Text: strings.Repeat("\x00", 1<<(count-4)), Next: next, Sigs: []api.Sig{sig(count, ""), sig(lastBy, "second")}})
		}
	}
	return append(list, api.Msg{Kind: api.MVote, Slot: 4, Text: strings.Repeat("t", 5000), Next: []int{12, 13, 14, 15}, Sigs: []api.Sig{sig(5, "same"), sig(5, "same")}})
}

// left answers changes and new views.
func left() []api.Msg {
	var list []api.Msg
	for _, epoch := range someEpochs() {
		for _, view := range someViews()[1:] {
			for certs := range 5 {
				one := change(certs*3+3, view, sig(certs, "c"), fourCerts(epoch, view)[:certs]...)
				list = append(list, api.Msg{Kind: api.MChange, Epoch: epoch, View: view, Changes: []api.Change{one}})
			}
			// The last slot alone, and the first and the third.
			four := fourCerts(epoch, view)
			list = append(list,
				api.Msg{Kind: api.MChange, Epoch: epoch, View: view, Changes: []api.Change{change(0, view, sig(0, ""), four[3])}},
				api.Msg{Kind: api.MChange, Epoch: epoch, View: view, Changes: []api.Change{change(lastID, view, sig(lastBy, ""), four[0], four[2])}})
			for count := 1; count <= 10; count++ {
				if count < 4 || epoch < 2 && view == 1 || count == 10 && view == lastView {
					list = append(list, api.Msg{Kind: api.MNewView, Epoch: epoch, View: view, Changes: manyChanges(count, epoch, view)})
				}
			}
		}
	}
	return list
}

// settled answers fetches and states.
func settled() []api.Msg {
	var list []api.Msg
	for epoch := range lastEpoch + 1 {
		list = append(list, api.Msg{Kind: api.MFetch, Epoch: epoch})
		if epoch > 0 {
			list = append(list, api.Msg{Kind: api.MState, Epoch: epoch, Slot: 4 * epoch, Text: "L", Links: links(epoch, epoch%4)})
		}
	}
	for _, count := range []int{0, 1, 2, 3, mostSigs} {
		list = append(list,
			api.Msg{Kind: api.MState, Epoch: 1, Slot: 4, Text: strings.Repeat("state", 300), Sigs: sigs(count), Links: links(1, mostSigs-count)},
			api.Msg{Kind: api.MState, Epoch: 2, Slot: 8, Text: "\xff", Sigs: sigs(mostSigs - count), Links: links(2, count)})
	}
	return append(list, api.Msg{Kind: api.MState, Epoch: lastEpoch, Slot: 240, Text: "x", Sigs: sigs(mostSigs), Links: links(lastEpoch, mostSigs)})
}

// fitting answers messages of each kind that fit, from the least to the most.
func fitting() []api.Msg {
	var list []api.Msg
	for _, some := range [][]api.Msg{ordered(), asked(), voted(), left(), settled()} {
		list = append(list, some...)
	}
	return list
}

// few answers one or two messages of each kind, short ones.
func few() []api.Msg {
	at := api.Msg{Epoch: 1, View: 2, Slot: 6, Req: put("k", 1.5)}
	null := api.Msg{Epoch: 1, Slot: 5}
	four := fourCerts(1, 2)
	four[3].Sigs = sigs(3)
	return []api.Msg{
		{Kind: api.MRequest, Req: put("key", math.NaN()), Sigs: []api.Sig{sig(103, "r")}},
		proposeOf(at), proposeOf(null),
		prepareOf(at, sig(3, "p")), prepareOf(null, sig(3, "")),
		commitOf(at), commitOf(null),
		{Kind: api.MVote, Epoch: 1, Slot: 8, Text: "state", Next: []int{0, 1, 2, 3, 15}, Sigs: []api.Sig{sig(0, "a"), sig(0, "bc")}},
		{Kind: api.MChange, Epoch: 1, View: 2, Changes: []api.Change{change(7, 2, sig(7, "c"), four...)}},
		{Kind: api.MChange, View: 1, Changes: []api.Change{change(0, 1, sig(0, ""))}},
		{Kind: api.MNewView, Epoch: 1, View: 2, Changes: []api.Change{change(0, 2, sig(0, "c")), change(1, 2, sig(1, "d"), four[1]), change(15, 2, sig(15, ""), four[0], four[2])}},
		{Kind: api.MReply, Epoch: 1, Req: join(4), Result: api.Result{Code: api.CodeFew, Real: math.Inf(-1)}},
		{Kind: api.MFetch, Epoch: 3},
		{Kind: api.MState, Epoch: 1, Slot: 4, Text: "L", Links: links(1, 0)},
		{Kind: api.MState, Epoch: 3, Slot: 12, Text: "L..", Sigs: sigs(3), Links: links(3, 2)},
	}
}
