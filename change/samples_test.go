package change_test

import (
	"math"
	"slices"
	"strings"

	"witan/api"
)

var minusNought = math.Copysign(0, -1)

func conf(epoch int, members ...int) api.Conf {
	return api.Conf{Epoch: epoch, Members: slices.Clone(members)}
}

// firstOf answers the numbers 0 to n - 1.
func firstOf(n int) []int {
	var list []int
	for id := range n {
		list = append(list, id)
	}
	return list
}

// lastOf answers the n numbers up to 15.
func lastOf(n int) []int {
	var list []int
	for id := ids - n; id < ids; id++ {
		list = append(list, id)
	}
	return list
}

// spread answers n numbers from 0 to 15 with gaps between them.
func spread(n int) []int {
	var list []int
	for i := range n {
		list = append(list, i*15/(n-1))
	}
	return list
}

// someConfs answers right configurations of every number of members, of the first epoch, the last one and some between.
func someConfs() []api.Conf {
	var all []api.Conf
	for n := least; n <= most; n++ {
		for i, epoch := range []int{0, 1, 31, 59, lastEpoch} {
			all = append(all, conf(epoch, [][]int{firstOf(n), lastOf(n), spread(n)}[(n+i)%3]...))
		}
	}
	return all
}

// wrongConfs answers configurations that are not right, by what is wrong.
func wrongConfs() map[string]api.Conf {
	return map[string]api.Conf{
		"the zero one":        {},
		"no members":          {Epoch: 5},
		"one":                 conf(0, 3),
		"three":               conf(0, 1, 2, 3),
		"eleven":              conf(0, firstOf(11)...),
		"sixteen":             conf(0, firstOf(16)...),
		"falling":             conf(1, 4, 3, 2, 1),
		"not rising":          conf(1, 0, 1, 3, 2),
		"twice":               conf(1, 0, 1, 2, 15, 15),
		"all the same":        conf(0, 7, 7, 7, 7),
		"-1":                  conf(0, -1, 0, 1, 2, 3),
		"16":                  conf(0, 0, 1, 2, 3, 16),
		"a client":            conf(0, 0, 1, 2, 101),
		"the least int":       conf(0, math.MinInt, 0, 1, 2, 3),
		"the greatest int":    conf(0, 0, 1, 2, 3, math.MaxInt),
		"the epoch -1":        conf(-1, firstOf(4)...),
		"the epoch 61":        conf(61, firstOf(4)...),
		"the least epoch":     conf(math.MinInt, firstOf(7)...),
		"the greatest epoch":  conf(math.MaxInt, firstOf(7)...),
		"very many, the same": {Members: make([]int, 100000)},
	}
}

// slotsOf answers the epoch's slots.
func slotsOf(epoch int) []int {
	return []int{4*epoch + 1, 4*epoch + 2, 4*epoch + 3, 4*epoch + 4}
}

func request(client, stamp, kind int, key string, x float64, id int) api.Request {
	return api.Request{Client: client, Stamp: stamp, Op: api.Op{Kind: kind, Key: key, Real: x, ID: id}}
}

func put(key string, x float64) api.Request { return request(1, 1, api.OpPut, key, x, 0) }

func get(key string) api.Request { return request(2, 3, api.OpGet, key, 0, 0) }

func join(id int) api.Request { return request(3, 1, api.OpJoin, "", 0, id) }

func null() api.Request { return api.Request{} }

// nans answers not-a-numbers of unlike bits, which all are the one NaN.
func nans() []float64 {
	var list []float64
	for _, n := range []uint64{oneNaN, 0x7FF8000000000001, 0x7FFFFFFFFFFFFFFF, 0xFFF8000000000000, 0xFFFFFFFFFFFFFFFF, 0x7FF0000000000001, 0xFFF4000000000000} {
		list = append(list, math.Float64frombits(n))
	}
	return list
}

// unlike answers requests that may stand, no two of which are the same: from one to the next some are changed by one field alone.
func unlike() []api.Request {
	return []api.Request{
		null(),
		put("k", 0), put("k", minusNought), put("k", 1), put("k", nans()[0]), put("k", math.Inf(1)), put("k", math.Inf(-1)),
		put("k", math.SmallestNonzeroFloat64), put("k", math.MaxFloat64), put("K", 0), put("kk", 0), put("\x00", 0), put(strings.Repeat("k", 16), 0),
		request(2, 1, api.OpPut, "k", 0, 0), request(8, 1, api.OpPut, "k", 0, 0),
		request(1, 2, api.OpPut, "k", 0, 0), request(1, lastStamp, api.OpPut, "k", 0, 0), request(1, 257, api.OpPut, "k", 0, 0),
		request(1, 1, api.OpAdd, "k", 0, 0), request(1, 1, api.OpMax, "k", 0, 0), request(1, 1, api.OpCut, "k", 0, 0), request(1, 1, api.OpGet, "k", 0, 0),
		join(0), join(1), join(15), request(3, 1, api.OpLeave, "", 0, 0), request(3, 1, api.OpLeave, "", 0, 15),
	}
}

// neither answers requests that are neither right nor null.
func neither() []api.Request {
	return []api.Request{
		{Client: 1}, {Stamp: 1}, {Client: 1, Stamp: 1}, {Op: api.Op{Kind: api.OpGet, Key: "k"}},
		{Op: api.Op{ID: 1}}, {Op: api.Op{Key: "k"}}, {Op: api.Op{Real: minusNought}}, {Op: api.Op{Real: math.NaN()}}, {Op: api.Op{Real: 1}},
		request(0, 1, api.OpPut, "k", 0, 0), request(9, 1, api.OpPut, "k", 0, 0), request(-1, 1, api.OpPut, "k", 0, 0), request(257, 1, api.OpPut, "k", 0, 0), request(math.MinInt, 1, api.OpPut, "k", 0, 0),
		request(1, 0, api.OpPut, "k", 0, 0), request(1, -1, api.OpPut, "k", 0, 0), request(1, lastStamp+1, api.OpPut, "k", 0, 0), request(1, math.MaxInt, api.OpPut, "k", 0, 0),
		request(1, 1, 0, "k", 0, 0), request(1, 1, 8, "k", 0, 0), request(1, 1, -1, "k", 0, 0), request(1, 1, 257, "k", 0, 0),
		put("", 0), put(strings.Repeat("k", 17), 0), put(strings.Repeat("k", 100000), 0), request(1, 1, api.OpPut, "k", 0, 1),
		request(1, 1, api.OpGet, "k", minusNought, 0), request(1, 1, api.OpGet, "k", 1, 0), request(1, 1, api.OpCut, "k", math.NaN(), 0), get(""),
		join(16), join(-1), request(3, 1, api.OpJoin, "k", 0, 0), request(3, 1, api.OpLeave, "", minusNought, 0), request(3, 1, api.OpJoin, "", math.NaN(), 0),
	}
}

// strangers answers replicas' numbers that are none of the members.
func strangers(members []int) []int {
	var list []int
	for id := range ids {
		if !slices.Contains(members, id) {
			list = append(list, id)
		}
	}
	return list
}

// chosen answers those of the list whose bits the set has, and the others.
func chosen[T any](list []T, set int) (in, out []T) {
	for i, v := range list {
		if set>>i&1 == 1 {
			in = append(in, v)
			continue
		}
		out = append(out, v)
	}
	return in, out
}

// signatures answers those of a text by each of these.
func signatures(text string, by ...int) []api.Sig {
	var list []api.Sig
	for _, id := range by {
		list = append(list, api.Sig{By: id, Text: text})
	}
	return list
}

// certOf answers a certificate of what these prepared.
func certOf(epoch, view, slot int, r api.Request, by ...int) api.Cert {
	return api.Cert{View: view, Slot: slot, Req: r, Sigs: signatures(preparedText(epoch, view, slot, r), by...)}
}

// signed answers the change with from's signature of its text.
func signed(epoch int, x api.Change) api.Change {
	x.Sig = api.Sig{By: x.From, Text: bytesOf(epoch, x)}
	return x
}

// changeOf answers a change that its member signed.
func changeOf(epoch, from, view int, certs ...api.Cert) api.Change {
	return signed(epoch, api.Change{From: from, View: view, Certs: certs})
}

// plain answers changes of these members without certificates.
func plain(epoch, view int, by ...int) []api.Change {
	var list []api.Change
	for _, id := range by {
		list = append(list, changeOf(epoch, id, view))
	}
	return list
}

// copied answers the change in memory of its own.
func copied(x api.Change) api.Change {
	x.Certs = slices.Clone(x.Certs)
	for i, c := range x.Certs {
		x.Certs[i].Sigs = slices.Clone(c.Sigs)
	}
	return x
}

// quorumOf answers the first members that are a quorum.
func quorumOf(members []int) []int { return members[:quorums()[len(members)]] }
