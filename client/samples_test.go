package client_test

import (
	"math"
	"slices"
	"testing"

	"witan/api"
	"witan/council"
	"witan/deeds"
)

// The document's numbers, written out.
const (
	interval  = 4
	ids       = 16
	clients   = 8
	node      = 100
	maxKey    = 16
	maxStamp  = 1048576
	maxBytes  = 65536
	lastEpoch = 60
	again     = 4
)

// The samples' numbers are those of package api: what is written out above stands for the document's.
func TestNumbers(t *testing.T) {
	got := []int{api.Interval, api.Ids, api.Clients, api.Node, api.MaxKey, api.MaxStamp, api.MaxBytes, api.MaxEpoch, api.Again}
	want := []int{interval, ids, clients, node, maxKey, maxStamp, maxBytes, lastEpoch, again}
	if !slices.Equal(got, want) {
		t.Error(got, want)
	}
}

// weakOf answers how many of so many members are a weak quorum, and quorumOf a quorum, written out.
func weakOf(n int) int { return []int{4: 2, 5: 2, 6: 2, 7: 3, 8: 3, 9: 3, 10: 4}[n] }

func quorumOf(n int) int { return []int{4: 3, 5: 4, 6: 4, 7: 5, 8: 6, 9: 6, 10: 7}[n] }

func conf(epoch int, members ...int) api.Conf {
	return api.Conf{Epoch: epoch, Members: slices.Clone(members)}
}

// firstOf answers the numbers 0 to n - 1.
func firstOf(n int) []int {
	var list []int
	for id := range n {
		list = append(list, id)
	}
	return list
}

// spread answers n numbers from 0 to 15 with gaps between them.
func spread(n int) []int {
	var list []int
	for i := range n {
		list = append(list, i*15/(n-1))
	}
	return list
}

var minusNought = math.Copysign(0, -1)

func nanOf(bits uint64) float64 { return math.Float64frombits(bits) }

// The operations.

func put(key string, x float64) api.Op { return api.Op{Kind: api.OpPut, Key: key, Real: x} }

func get(key string) api.Op { return api.Op{Kind: api.OpGet, Key: key} }

func join(id int) api.Op { return api.Op{Kind: api.OpJoin, ID: id} }

func request(client, stamp int, o api.Op) api.Request {
	return api.Request{Client: client, Stamp: stamp, Op: o}
}

func textOf(q api.Request) string {
	text, e := deeds.Text(q)
	if e != api.OK {
		panic("no text")
	}
	return text
}

func resultText(x api.Result) string {
	text, e := deeds.ResultText(x)
	if e != api.OK {
		panic("no text of the result")
	}
	return text
}

func result(code int, x float64) api.Result { return api.Result{Code: code, Real: x} }

func replyMsg(epoch int, q api.Request, x api.Result) api.Msg {
	return api.Msg{Kind: api.MReply, Epoch: epoch, Req: q, Result: x}
}

// askMsg answers the message by which a client asks, as the chapter tells it.
func askMsg(q api.Request) api.Msg {
	return api.Msg{Kind: api.MRequest, Req: q, Sigs: []api.Sig{{By: node + q.Client, Text: textOf(q)}}}
}

func fetchMsg(epoch int) api.Msg { return api.Msg{Kind: api.MFetch, Epoch: epoch} }

func confText(c api.Conf) string {
	s, e := council.Text(c)
	if e != api.OK {
		panic("no text of the configuration")
	}
	return s
}

func signatures(text string, by ...int) []api.Sig {
	var list []api.Sig
	for _, id := range by {
		list = append(list, api.Sig{By: id, Text: text})
	}
	return list
}

func linkOf(c api.Conf, by ...int) api.Link {
	return api.Link{Conf: c, Sigs: signatures(confText(c), by...)}
}

// road is who was a member, epoch by epoch, with the links that lead there.
type road struct {
	first api.Conf
	links []api.Link
}

func roadOf(members ...int) *road { return &road{first: conf(0, members...)} }

func (r *road) last() api.Conf {
	if len(r.links) == 0 {
		return r.first
	}
	return r.links[len(r.links)-1].Conf
}

// walk goes on to the next epoch with these members, which the first quorum signs.
func (r *road) walk(members ...int) *road {
	old := r.last().Members
	return r.walkBy(old[:quorumOf(len(old))], members...)
}

// walkBy goes on to the next epoch with these members, which those sign.
func (r *road) walkBy(by []int, members ...int) *road {
	r.links = append(r.links, linkOf(conf(len(r.links)+1, members...), by...))
	return r
}

// fork answers a road that goes on by itself.
func (r *road) fork() *road { return &road{first: r.first, links: slices.Clip(r.links)} }

// stay goes on for so many epochs with the same members.
func (r *road) stay(epochs int) *road {
	for range epochs {
		r.walk(r.last().Members...)
	}
	return r
}

// state answers the message by which others learn of the road. Each has memory of its own.
func (r *road) state() api.Msg { return stateMsg(r.links...) }

func stateMsg(links ...api.Link) api.Msg {
	epoch := len(links)
	return clone(api.Msg{Kind: api.MState, Epoch: epoch, Slot: interval * epoch, Text: "st", Links: links})
}

func clone(m api.Msg) api.Msg {
	m.Next = slices.Clone(m.Next)
	m.Sigs = slices.Clone(m.Sigs)
	m.Changes = slices.Clone(m.Changes)
	for i := range m.Changes {
		x := &m.Changes[i]
		x.Certs = slices.Clone(x.Certs)
		for j := range x.Certs {
			x.Certs[j].Sigs = slices.Clone(x.Certs[j].Sigs)
		}
	}
	m.Links = cloneLinks(m.Links)
	return m
}

func cloneLinks(list []api.Link) []api.Link {
	list = slices.Clone(list)
	for i := range list {
		list[i].Conf.Members = slices.Clone(list[i].Conf.Members)
		list[i].Sigs = slices.Clone(list[i].Sigs)
	}
	return list
}
