package lanes_test

import (
	"math"
	"strconv"
	"testing"

	"witan/api"
	"witan/council"
	"witan/wire"
)

// maxLane is the document's number, written out.
const maxLane = 4096

// The samples' number is that of package api: what is written out above stands for the document's.
func TestNumbers(t *testing.T) {
	if api.MaxLane != maxLane {
		t.Error(api.MaxLane)
	}
}

var minusNought = math.Copysign(0, -1)

func nanOf(bits uint64) float64 { return math.Float64frombits(bits) }

func sig(by int, text string) api.Sig { return api.Sig{By: by, Text: text} }

func put(x float64) api.Request {
	return api.Request{Client: 1, Stamp: 2, Op: api.Op{Kind: api.OpPut, Key: "k", Real: x}}
}

func packet(from, to int, m api.Msg) api.Packet { return api.Packet{From: from, To: to, Msg: m} }

// fetch answers a packet without signatures, which is told from others by its receiver.
func fetch(to int) api.Packet { return packet(1, to, api.Msg{Kind: api.MFetch}) }

// fetches answers one to each, from the first number up to the one ahead of the end.
func fetches(first, end int) []api.Packet {
	var list []api.Packet
	for to := first; to < end; to++ {
		list = append(list, fetch(to))
	}
	return list
}

func prepare(sigs ...api.Sig) api.Msg {
	return api.Msg{Kind: api.MPrepare, Slot: 1, Sigs: sigs}
}

// numbered answers a function that makes signatures by the node, each of another text.
func numbered(by int, mark string) func() api.Sig {
	n := 0
	return func() api.Sig {
		n++
		return sig(by, mark+strconv.Itoa(n))
	}
}

func some(n int, next func() api.Sig) []api.Sig {
	var list []api.Sig
	for range n {
		list = append(list, next())
	}
	return list
}

func cert(slot int, next func() api.Sig) api.Cert {
	return api.Cert{View: 2, Slot: slot, Req: put(2.5), Sigs: some(2, next)}
}

func changeOf(from int, next func() api.Sig) api.Change {
	return api.Change{From: from, View: 3, Certs: []api.Cert{cert(6, next), cert(8, next)}, Sig: next()}
}

func linkOf(epoch int, next func() api.Sig) api.Link {
	return api.Link{Conf: api.Conf{Epoch: epoch, Members: []int{0, 1, 2, 4}}, Sigs: some(3, next)}
}

// messages answers one message of each kind at least that fits, with these signatures in all its places.
func messages(next func() api.Sig) []api.Msg {
	q := put(-1.5)
	return []api.Msg{
		{Kind: api.MRequest, Req: q, Sigs: some(1, next)},
		{Kind: api.MPropose, Epoch: 1, View: 2, Slot: 5, Req: q, Sigs: some(1, next)},
		{Kind: api.MPropose, Epoch: 1, View: 2, Slot: 6},
		{Kind: api.MPrepare, Epoch: 1, View: 2, Slot: 7, Req: q, Sigs: some(1, next)},
		{Kind: api.MCommit, Epoch: 60, View: 15, Slot: 244, Req: q},
		{Kind: api.MVote, Epoch: 1, Slot: 8, Text: "st", Next: []int{0, 1, 2, 4}, Sigs: some(2, next)},
		{Kind: api.MChange, Epoch: 1, View: 3, Changes: []api.Change{changeOf(0, next)}},
		{Kind: api.MNewView, Epoch: 1, View: 3, Changes: []api.Change{changeOf(0, next), changeOf(1, next), changeOf(15, next)}},
		{Kind: api.MReply, Epoch: 2, Req: q, Result: api.Result{Code: api.CodeOK, Real: minusNought}},
		{Kind: api.MFetch, Epoch: 3},
		{Kind: api.MState, Epoch: 2, Slot: 8, Text: "st", Links: []api.Link{linkOf(1, next), linkOf(2, next)}, Sigs: some(3, next)},
	}
}

// full answers a message with all its fields, which fits no kind.
func full(next func() api.Sig) api.Msg {
	return api.Msg{Kind: api.MFetch, Epoch: -3, View: math.MinInt, Slot: math.MaxInt,
		Req:    api.Request{Client: -1, Stamp: math.MinInt, Op: api.Op{Kind: 99, Key: "key", Real: math.Inf(-1), ID: -9}},
		Result: api.Result{Code: -5, Real: 0.1}, Text: "text\x00\xff", Next: []int{9, -1, 9},
		Sigs: some(20, next), Changes: []api.Change{changeOf(-4, next), {}, changeOf(0, next)}, Links: []api.Link{linkOf(77, next), {}, linkOf(-1, next)}}
}

// spots answers the places of all signatures in the message, in the order in which layer 13 names them.
func spots(m *api.Msg) []*api.Sig {
	var list []*api.Sig
	add := func(sigs []api.Sig) {
		for i := range sigs {
			list = append(list, &sigs[i])
		}
	}
	add(m.Sigs)
	for i := range m.Changes {
		for j := range m.Changes[i].Certs {
			add(m.Changes[i].Certs[j].Sigs)
		}
		list = append(list, &m.Changes[i].Sig)
	}
	for i := range m.Links {
		add(m.Links[i].Sigs)
	}
	return list
}

// The samples are what their names say.
func TestSamples(t *testing.T) {
	kinds := map[int]bool{}
	for i, m := range messages(numbered(1, "x")) {
		if _, e := wire.Bytes(m); e != api.OK {
			t.Error(i, e)
		}
		kinds[m.Kind] = true
	}
	if len(kinds) != 10 {
		t.Error(kinds)
	}
	m := full(numbered(1, "x"))
	if _, e := wire.Bytes(m); e != api.ErrField {
		t.Error(e)
	}
	if len(spots(&m)) != len(wire.Terms(m)) {
		t.Error(len(spots(&m)), len(wire.Terms(m)))
	}
	if !council.Right(linkOf(1, numbered(1, "x")).Conf) {
		t.Error("no right configuration")
	}
}
