package lanes

import (
	"math"
	"slices"
	"strings"

	"witan/api"
)

// theNaN is the bits of the one NaN, as which every NaN is answered.
const theNaN uint64 = 0x7FF8000000000000

// own answers the packet in memory of its own, its reals being those with their bits. It goes through the message's fields, not through its bytes: what is sent may be any message, and one that doesn't fit has no bytes.
func own(p api.Packet) api.Packet {
	m := &p.Msg
	m.Req = ownRequest(m.Req)
	m.Result.Real = canon(m.Result.Real)
	m.Text = strings.Clone(m.Text)
	m.Next = slices.Clone(m.Next)
	m.Sigs = ownSigs(m.Sigs)
	m.Changes = ownList(m.Changes, ownChange)
	m.Links = ownList(m.Links, ownLink)
	return p
}

// ownList answers a list of its own of what each becomes.
func ownList[T any](list []T, own func(T) T) []T {
	list = slices.Clone(list)
	for i := range list {
		list[i] = own(list[i])
	}
	return list
}

func ownChange(c api.Change) api.Change {
	c.Certs = ownList(c.Certs, ownCert)
	c.Sig = ownSig(c.Sig)
	return c
}

func ownCert(c api.Cert) api.Cert {
	c.Req = ownRequest(c.Req)
	c.Sigs = ownSigs(c.Sigs)
	return c
}

func ownLink(l api.Link) api.Link {
	l.Conf.Members = slices.Clone(l.Conf.Members)
	l.Sigs = ownSigs(l.Sigs)
	return l
}

func ownSigs(list []api.Sig) []api.Sig { return ownList(list, ownSig) }

func ownSig(s api.Sig) api.Sig {
	s.Text = strings.Clone(s.Text)
	return s
}

func ownRequest(q api.Request) api.Request {
	q.Op.Key = strings.Clone(q.Op.Key)
	q.Op.Real = canon(q.Op.Real)
	return q
}

// canon answers the real with x's bits.
func canon(x float64) float64 {
	if math.IsNaN(x) {
		return math.Float64frombits(theNaN)
	}
	return x
}
