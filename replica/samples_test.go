package replica_test

import (
	"math"
	"slices"
	"testing"

	"witan/api"
	"witan/change"
	"witan/council"
	"witan/deeds"
	"witan/ledger"
)

// The document's numbers, written out.
const (
	interval  = 4
	ids       = 16
	clients   = 8
	node      = 100
	leaves    = 64
	lastView  = 15
	lastEpoch = 60
	again     = 4
	patience  = 8
)

func conf(epoch int, members ...int) api.Conf {
	return api.Conf{Epoch: epoch, Members: slices.Clone(members)}
}

// firstOf answers the numbers 0 to n - 1.
func firstOf(n int) []int {
	var list []int
	for id := range n {
		list = append(list, id)
	}
	return list
}

// spread answers n numbers from 0 to 15 with gaps between them.
func spread(n int) []int {
	var list []int
	for i := range n {
		list = append(list, i*15/(n-1))
	}
	return list
}

// quorumOf answers how many of so many members are a quorum, and weakOf a weak one, written out.
func quorumOf(n int) int { return []int{4: 3, 5: 4, 6: 4, 7: 5, 8: 6, 9: 6, 10: 7}[n] }

func weakOf(n int) int { return []int{4: 2, 5: 2, 6: 2, 7: 3, 8: 3, 9: 3, 10: 4}[n] }

func put(client, stamp int, key string, x float64) api.Request {
	return api.Request{Client: client, Stamp: stamp, Op: api.Op{Kind: api.OpPut, Key: key, Real: x}}
}

func get(client, stamp int) api.Request {
	return api.Request{Client: client, Stamp: stamp, Op: api.Op{Kind: api.OpGet, Key: "k"}}
}

func join(client, stamp, id int) api.Request {
	return api.Request{Client: client, Stamp: stamp, Op: api.Op{Kind: api.OpJoin, ID: id}}
}

func leave(client, stamp, id int) api.Request {
	return api.Request{Client: client, Stamp: stamp, Op: api.Op{Kind: api.OpLeave, ID: id}}
}

var null = api.Request{}

func textOf(q api.Request) string {
	text, e := deeds.Text(q)
	if e != api.OK {
		panic("no text")
	}
	return text
}

func requestOf(text string) api.Request {
	q, e := deeds.Read(text)
	if e != api.OK {
		panic("no request")
	}
	return q
}

// asker answers the signature of the request's client.
func asker(q api.Request) api.Sig { return api.Sig{By: node + q.Client, Text: textOf(q)} }

func preparedText(epoch, view, slot int, q api.Request) string {
	text, e := deeds.Prepared(epoch, view, slot, q)
	if e != api.OK {
		panic("no text of what is prepared")
	}
	return text
}

// The messages, each as an honest node would send it.

func askMsg(q api.Request) api.Msg {
	return api.Msg{Kind: api.MRequest, Req: q, Sigs: []api.Sig{asker(q)}}
}

func proposeMsg(epoch, view, slot int, q api.Request) api.Msg {
	m := api.Msg{Kind: api.MPropose, Epoch: epoch, View: view, Slot: slot, Req: q}
	if q != null {
		m.Sigs = []api.Sig{asker(q)}
	}
	return m
}

func prepareMsg(by, epoch, view, slot int, q api.Request) api.Msg {
	s := api.Sig{By: by, Text: preparedText(epoch, view, slot, q)}
	return api.Msg{Kind: api.MPrepare, Epoch: epoch, View: view, Slot: slot, Req: q, Sigs: []api.Sig{s}}
}

func commitMsg(epoch, view, slot int, q api.Request) api.Msg {
	return api.Msg{Kind: api.MCommit, Epoch: epoch, View: view, Slot: slot, Req: q}
}

func stateText(slot int, text string) string {
	s, _ := deeds.State(slot, text)
	return s
}

func confText(c api.Conf) string {
	s, e := council.Text(c)
	if e != api.OK {
		panic("no text of the configuration")
	}
	return s
}

func voteMsg(by, epoch int, text string, next []int) api.Msg {
	slot := interval * (epoch + 1)
	return api.Msg{Kind: api.MVote, Epoch: epoch, Slot: slot, Text: text, Next: slices.Clone(next), Sigs: []api.Sig{
		{By: by, Text: stateText(slot, text)},
		{By: by, Text: confText(conf(epoch+1, next...))},
	}}
}

// voteFor answers the vote for what the full ledger comes to.
func voteFor(by int, full *ledger.Ledger) api.Msg {
	turned := full.Copy()
	if turned.Turn() != api.OK {
		panic("not full")
	}
	return voteMsg(by, full.Conf().Epoch, turned.Text(), turned.Conf().Members)
}

func signatures(text string, by ...int) []api.Sig {
	var list []api.Sig
	for _, id := range by {
		list = append(list, api.Sig{By: id, Text: text})
	}
	return list
}

func certOf(epoch, view, slot int, q api.Request, by ...int) api.Cert {
	return api.Cert{View: view, Slot: slot, Req: q, Sigs: signatures(preparedText(epoch, view, slot, q), by...)}
}

func changeOf(epoch, from, view int, certs ...api.Cert) api.Change {
	x := api.Change{From: from, View: view, Certs: slices.Clone(certs)}
	text, e := change.Text(epoch, x)
	if e != api.OK {
		panic("no text of the change")
	}
	x.Sig = api.Sig{By: from, Text: text}
	return x
}

func changeMsg(epoch, from, view int, certs ...api.Cert) api.Msg {
	return api.Msg{Kind: api.MChange, Epoch: epoch, View: view, Changes: []api.Change{changeOf(epoch, from, view, certs...)}}
}

func newViewMsg(epoch, view int, list ...api.Change) api.Msg {
	return api.Msg{Kind: api.MNewView, Epoch: epoch, View: view, Changes: list}
}

// plainNewView answers the beginning of a view to which these went who had nothing prepared.
func plainNewView(epoch, view int, from ...int) api.Msg {
	var list []api.Change
	for _, id := range from {
		list = append(list, changeOf(epoch, id, view))
	}
	return newViewMsg(epoch, view, list...)
}

func replyMsg(epoch int, q api.Request, x api.Result) api.Msg {
	return api.Msg{Kind: api.MReply, Epoch: epoch, Req: q, Result: x}
}

func fetchMsg(epoch int) api.Msg { return api.Msg{Kind: api.MFetch, Epoch: epoch} }

// road is what a council comes to, epoch by epoch.
type road struct {
	first  api.Conf
	ledger *ledger.Ledger
	links  []api.Link
	sigs   []api.Sig // of the last epoch's state
}

func roadOf(members ...int) *road {
	first := conf(0, members...)
	l, e := ledger.New(first)
	if e != api.OK {
		panic("no ledger")
	}
	return &road{first: first, ledger: l}
}

// walk does the requests, and null ones up to the epoch's end, and begins the next epoch, which the first quorum signs.
func (r *road) walk(requests ...api.Request) *road {
	for _, q := range requests {
		if _, e := r.ledger.Do(q); e != api.OK {
			panic("not done")
		}
	}
	for !r.ledger.Full() {
		r.ledger.Do(null)
	}
	old := r.ledger.Conf().Members
	if r.ledger.Turn() != api.OK {
		panic("not turned")
	}
	by := old[:quorumOf(len(old))]
	c := r.ledger.Conf()
	r.links = append(r.links, api.Link{Conf: c, Sigs: signatures(confText(c), by...)})
	r.sigs = signatures(stateText(interval*c.Epoch, r.ledger.Text()), by...)
	return r
}

// state answers the message by which others learn where the road is. Each has memory of its own.
func (r *road) state() api.Msg {
	epoch := r.ledger.Conf().Epoch
	m := api.Msg{Kind: api.MState, Epoch: epoch, Slot: interval * epoch, Text: r.ledger.Text(), Sigs: r.sigs, Links: r.links}
	return clone(m)
}

func clone(m api.Msg) api.Msg {
	m.Next = slices.Clone(m.Next)
	m.Sigs = slices.Clone(m.Sigs)
	m.Changes = slices.Clone(m.Changes)
	for i := range m.Changes {
		x := &m.Changes[i]
		x.Certs = slices.Clone(x.Certs)
		for j := range x.Certs {
			x.Certs[j].Sigs = slices.Clone(x.Certs[j].Sigs)
		}
	}
	m.Links = slices.Clone(m.Links)
	for i := range m.Links {
		m.Links[i].Conf.Members = slices.Clone(m.Links[i].Conf.Members)
		m.Links[i].Sigs = slices.Clone(m.Links[i].Sigs)
	}
	return m
}

// The samples' numbers are those of package api: what is written out above stands for the document's.
func TestNumbers(t *testing.T) {
	got := []int{api.Interval, api.Ids, api.Clients, api.Node, api.Leaves, api.MaxView, api.MaxEpoch, api.Again, api.Patience}
	want := []int{interval, ids, clients, node, leaves, lastView, lastEpoch, again, patience}
	if !slices.Equal(got, want) {
		t.Error(got, want)
	}
}

var minusNought = math.Copysign(0, -1)

func nanOf(bits uint64) float64 { return math.Float64frombits(bits) }
