package world_test

import (
	"math"
	"slices"
	"strings"
	"testing"

	"witan/api"
	"witan/change"
	"witan/council"
	"witan/deeds"
	"witan/ledger"
	"witan/wire"
)

// The document's numbers, written out.
const (
	interval   = 4
	ids        = 16
	clients    = 8
	node       = 100
	leaves     = 64
	lastView   = 15
	lastEpoch  = 60
	maxLane    = 4096
	maxStamp   = 1048576
	again      = 4
	mostRounds = 16
)

// The samples' numbers are those of package api: what is written out above stands for the document's.
func TestNumbers(t *testing.T) {
	got := []int{api.Interval, api.Ids, api.Clients, api.Node, api.Leaves, api.MaxView, api.MaxEpoch, api.MaxLane, api.MaxStamp, api.Again}
	want := []int{interval, ids, clients, node, leaves, lastView, lastEpoch, maxLane, maxStamp, again}
	if !slices.Equal(got, want) {
		t.Error(got, want)
	}
}

func quorumOf(n int) int { return []int{4: 3, 5: 4, 6: 4, 7: 5, 8: 6, 9: 6, 10: 7}[n] }

func conf(epoch int, members ...int) api.Conf {
	return api.Conf{Epoch: epoch, Members: slices.Clone(members)}
}

// firstOf answers the numbers 0 to n - 1.
func firstOf(n int) []int {
	var list []int
	for id := range n {
		list = append(list, id)
	}
	return list
}

// clientsOf answers the numbers 1 to k.
func clientsOf(k int) []int {
	var list []int
	for id := 1; id <= k; id++ {
		list = append(list, id)
	}
	return list
}

func nanOf(bits uint64) float64 { return math.Float64frombits(bits) }

// oddNumbers answers numbers about all edges.
func oddNumbers() []int {
	list := []int{math.MinInt, math.MinInt + 1, math.MinInt + node, math.MaxInt, math.MaxInt - 1, math.MaxInt - node, 4095, 4096, 4097, -4096, 1 << 32, -1 << 32, 199, 200}
	for n := -5; n <= 20; n++ {
		list = append(list, n)
	}
	for n := 98; n <= 110; n++ {
		list = append(list, n, -n)
	}
	return list
}

// The operations.

func put(key string, x float64) api.Op { return api.Op{Kind: api.OpPut, Key: key, Real: x} }

func get(key string) api.Op { return api.Op{Kind: api.OpGet, Key: key} }

func join(id int) api.Op { return api.Op{Kind: api.OpJoin, ID: id} }

func leave(id int) api.Op { return api.Op{Kind: api.OpLeave, ID: id} }

func request(client, stamp int, o api.Op) api.Request {
	return api.Request{Client: client, Stamp: stamp, Op: o}
}

// The steps.

func deliver(n int) api.Do { return api.Do{Kind: 1, N: n} }

func drop(n int) api.Do { return api.Do{Kind: 2, N: n} }

func copyOf(n int) api.Do { return api.Do{Kind: 3, N: n} }

func tick(n int) api.Do { return api.Do{Kind: 4, N: n} }

func ask(client int, o api.Op) api.Do { return api.Do{Kind: 5, N: client, Op: o} }

func inject(from, to int, m api.Msg) api.Do { return api.Do{Kind: 6, From: from, N: to, Msg: m} }

func flush(rounds int) api.Do { return api.Do{Kind: 7, N: rounds} }

// The messages.

func sig(by int, text string) api.Sig { return api.Sig{By: by, Text: text} }

func textOf(q api.Request) string {
	text, _ := deeds.Text(q)
	return text
}

func askMsg(q api.Request) api.Msg {
	return api.Msg{Kind: api.MRequest, Req: q, Sigs: []api.Sig{sig(node+q.Client, textOf(q))}}
}

func proposeMsg(epoch, view, slot int, q api.Request) api.Msg {
	m := api.Msg{Kind: api.MPropose, Epoch: epoch, View: view, Slot: slot, Req: q}
	if q != (api.Request{}) {
		m.Sigs = []api.Sig{sig(node+q.Client, textOf(q))}
	}
	return m
}

func prepareMsg(by, epoch, view, slot int, q api.Request) api.Msg {
	text, _ := deeds.Prepared(epoch, view, slot, q)
	return api.Msg{Kind: api.MPrepare, Epoch: epoch, View: view, Slot: slot, Req: q, Sigs: []api.Sig{sig(by, text)}}
}

func commitMsg(epoch, view, slot int, q api.Request) api.Msg {
	return api.Msg{Kind: api.MCommit, Epoch: epoch, View: view, Slot: slot, Req: q}
}

func voteMsg(by, epoch int, text string, next []int) api.Msg {
	slot := interval * (epoch + 1)
	state, _ := deeds.State(slot, text)
	members, _ := council.Text(conf(epoch+1, next...))
	return api.Msg{Kind: api.MVote, Epoch: epoch, Slot: slot, Text: text, Next: slices.Clone(next), Sigs: []api.Sig{sig(by, state), sig(by, members)}}
}

// voteFor answers the vote for what the full ledger comes to.
func voteFor(by int, full *ledger.Ledger) api.Msg {
	turned := full.Copy()
	turned.Turn()
	return voteMsg(by, full.Conf().Epoch, turned.Text(), turned.Conf().Members)
}

func changeOf(epoch, from, view int, certs ...api.Cert) api.Change {
	x := api.Change{From: from, View: view, Certs: slices.Clone(certs)}
	text, _ := change.Text(epoch, x)
	x.Sig = sig(from, text)
	return x
}

func changeMsg(epoch, from, view int, certs ...api.Cert) api.Msg {
	return api.Msg{Kind: api.MChange, Epoch: epoch, View: view, Changes: []api.Change{changeOf(epoch, from, view, certs...)}}
}

func replyMsg(epoch int, q api.Request, x api.Result) api.Msg {
	return api.Msg{Kind: api.MReply, Epoch: epoch, Req: q, Result: x}
}

func fetchMsg(epoch int) api.Msg { return api.Msg{Kind: api.MFetch, Epoch: epoch} }

// mixed answers a message of each kind that fits, each of which has all the lists that its kind may have, with signatures by this node.
func mixed(by int) []api.Msg {
	q := request(1, 2, put("key", 2.5))
	s := func(text string) []api.Sig { return []api.Sig{sig(by, text), sig(by, text+"!"), sig(by, text+"?")} }
	certs := []api.Cert{{View: 2, Slot: 6, Req: q, Sigs: s("c")}, {View: 1, Slot: 8, Req: q, Sigs: s("d")}}
	changes := []api.Change{{From: 0, View: 3, Certs: certs, Sig: sig(by, "x")}, {From: 2, View: 3, Sig: sig(by, "y")}}
	links := []api.Link{{Conf: conf(1, 0, 1, 2, 4), Sigs: s("l")}, {Conf: conf(2, 0, 1, 2, 5), Sigs: s("m")}}
	return []api.Msg{
		{Kind: api.MRequest, Req: q, Sigs: s("a")[:1]},
		{Kind: api.MPropose, Epoch: 1, View: 2, Slot: 5, Req: q, Sigs: s("b")[:1]},
		{Kind: api.MPrepare, Epoch: 1, View: 2, Slot: 7, Req: q, Sigs: s("e")[:1]},
		{Kind: api.MCommit, Epoch: 60, View: 15, Slot: 244, Req: q},
		{Kind: api.MVote, Epoch: 1, Slot: 8, Text: "st", Next: []int{0, 1, 2, 4}, Sigs: s("f")[:2]},
		{Kind: api.MChange, Epoch: 1, View: 3, Changes: changes[:1]},
		{Kind: api.MNewView, Epoch: 1, View: 3, Changes: changes},
		{Kind: api.MReply, Epoch: 2, Req: q, Result: api.Result{Real: -1}},
		{Kind: api.MFetch, Epoch: 3},
		{Kind: api.MState, Epoch: 2, Slot: 8, Text: "st", Links: links, Sigs: s("g")},
	}
}

// long answers what doesn't fit, but for its many bytes.
func long() api.Msg {
	return api.Msg{Kind: api.MPrepare, Slot: 1, Sigs: []api.Sig{sig(3, strings.Repeat("x", 65536))}}
}

// The samples are what their names say.
func TestSamples(t *testing.T) {
	for i, m := range mixed(3) {
		if _, e := wire.Bytes(m); e != api.OK || m.Kind != i+1 {
			t.Error(i, e)
		}
	}
	if _, e := wire.Bytes(long()); e != api.ErrLong {
		t.Error(e)
	}
}
