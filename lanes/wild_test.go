package lanes_test

import (
	"math"
	"math/rand"
	"strconv"
	"testing"

	"witan/api"
)

// P20.1 to P20.3: any rows of calls, from fixed seeds.

func TestWildRows(t *testing.T) {
	for seed := range int64(400) {
		r := rand.New(rand.NewSource(seed))
		p := pairOf(t, badOf(r)...)
		w := wild{r: r, nodes: 6, texts: 1 + r.Intn(4)}
		for range 40 + r.Intn(80) {
			w.step(p)
		}
		p.drain()
	}
}

// Rows about the bound.
func TestWildRowsAtTheBound(t *testing.T) {
	for seed := range int64(12) {
		r := rand.New(rand.NewSource(seed))
		p := pairOf(t, badOf(r)...)
		w := wild{r: r, nodes: 6, texts: 2}
		p.send(fetches(0, maxLane-r.Intn(6))...)
		for range 120 {
			w.step(p)
		}
		for range 20 {
			p.take(0)
			p.take(-1)
		}
	}
}

func badOf(r *rand.Rand) []int {
	var list []int
	for range r.Intn(4) {
		list = append(list, r.Intn(6))
	}
	return list
}

// wild makes packets whose signatures are by few nodes, of few texts, so that they meet.
type wild struct {
	r            *rand.Rand
	nodes, texts int
}

func (w *wild) step(p *pair) {
	switch w.r.Intn(8) {
	case 0, 1:
		var list []api.Packet
		for range w.r.Intn(4) {
			list = append(list, w.packet())
		}
		p.send(list...)
	case 2, 3, 4:
		x := w.packet()
		if len(p.m.bad) > 0 && w.r.Intn(8) > 0 {
			x.From = p.m.bad[w.r.Intn(len(p.m.bad))]
		}
		p.inject(x)
	case 5:
		p.take(w.number())
	case 6:
		p.drop(w.number())
	case 7:
		p.copy(w.number())
	}
}

func (w *wild) number() int {
	switch w.r.Intn(4) {
	case 0:
		return 0
	case 1:
		return w.r.Intn(20) - 10
	case 2:
		return w.r.Intn(20000) - 10000
	}
	return int(w.r.Uint64())
}

func (w *wild) sig() api.Sig {
	return sig(w.r.Intn(w.nodes), strconv.Itoa(w.r.Intn(w.texts)))
}

func (w *wild) real() float64 {
	switch w.r.Intn(3) {
	case 0:
		return float64(w.r.Intn(9))
	case 1:
		return nanOf(0x7FF0000000000001 + uint64(w.r.Intn(99)))
	}
	return math.Float64frombits(w.r.Uint64())
}

// packet answers one of any kind. One of four doesn't fit.
func (w *wild) packet() api.Packet {
	list := messages(w.sig)
	m := list[w.r.Intn(len(list))]
	if m.Kind == api.MRequest || m.Kind == api.MReply {
		m.Req.Op.Real = w.real()
	}
	if m.Kind == api.MReply {
		m.Result.Real = w.real()
	}
	if w.r.Intn(4) == 0 {
		m = w.unfit(m)
	}
	return packet(w.r.Intn(w.nodes), w.r.Intn(w.nodes), m)
}

func (w *wild) unfit(m api.Msg) api.Msg {
	switch w.r.Intn(5) {
	case 0:
		m.Kind = w.r.Intn(14) - 1
	case 1:
		m.Epoch = w.r.Intn(80) - 10
	case 2:
		m.Sigs = append(m.Sigs, w.sig())
	case 3:
		m.Slot++
	case 4:
		m = full(w.sig)
	}
	return m
}
