package slots_test

import (
	"iter"
	"math"
	"slices"
	"strings"

	"witan/api"
)

func conf(epoch int, members ...int) api.Conf {
	return api.Conf{Epoch: epoch, Members: slices.Clone(members)}
}

// firstOf answers the numbers 0 to n - 1.
func firstOf(n int) []int {
	var list []int
	for id := range n {
		list = append(list, id)
	}
	return list
}

// lastOf answers the n numbers up to 15.
func lastOf(n int) []int {
	var list []int
	for id := ids - n; id < ids; id++ {
		list = append(list, id)
	}
	return list
}

// spread answers n numbers from 0 to 15 with gaps between them.
func spread(n int) []int {
	var list []int
	for i := range n {
		list = append(list, i*15/(n-1))
	}
	return list
}

// someConfs answers right configurations of every number of members, of the first epoch, the last one and some between.
func someConfs() []api.Conf {
	var all []api.Conf
	for n := least; n <= most; n++ {
		for i, epoch := range []int{0, 1, 31, 59, lastEpoch} {
			all = append(all, conf(epoch, [][]int{firstOf(n), lastOf(n), spread(n)}[(n+i)%3]...))
		}
	}
	return all
}

// wrongConfs answers configurations that are not right, by what is wrong.
func wrongConfs() map[string]api.Conf {
	return map[string]api.Conf{
		"the zero one":        {},
		"no members":          {Epoch: 5},
		"one":                 conf(0, 3),
		"three":               conf(0, 1, 2, 3),
		"eleven":              conf(0, firstOf(11)...),
		"sixteen":             conf(0, firstOf(16)...),
		"falling":             conf(1, 4, 3, 2, 1),
		"not rising":          conf(1, 0, 1, 3, 2),
		"twice":               conf(1, 0, 1, 2, 15, 15),
		"all the same":        conf(0, 7, 7, 7, 7),
		"-1":                  conf(0, -1, 0, 1, 2, 3),
		"16":                  conf(0, 0, 1, 2, 3, 16),
		"a client":            conf(0, 0, 1, 2, 101),
		"the least int":       conf(0, math.MinInt, 0, 1, 2, 3),
		"the greatest int":    conf(0, 0, 1, 2, 3, math.MaxInt),
		"the epoch -1":        conf(-1, firstOf(4)...),
		"the epoch 61":        conf(61, firstOf(4)...),
		"the least epoch":     conf(math.MinInt, firstOf(7)...),
		"the greatest epoch":  conf(math.MaxInt, firstOf(7)...),
		"very many, the same": {Members: make([]int, 100000)},
	}
}

func request(client, stamp, kind int, key string, x float64, id int) api.Request {
	return api.Request{Client: client, Stamp: stamp, Op: api.Op{Kind: kind, Key: key, Real: x, ID: id}}
}

func put(key string, x float64) api.Request { return request(1, 1, api.OpPut, key, x, 0) }

func get(key string) api.Request { return request(2, 3, api.OpGet, key, 0, 0) }

func join(id int) api.Request { return request(3, 1, api.OpJoin, "", 0, id) }

func null() api.Request { return api.Request{} }

// nans answers not-a-numbers of unlike bits, which all are the one NaN.
func nans() []float64 {
	var list []float64
	for _, n := range []uint64{0x7FF8000000000000, 0x7FF8000000000001, 0x7FFFFFFFFFFFFFFF, 0xFFF8000000000000, 0xFFFFFFFFFFFFFFFF, 0x7FF0000000000001, 0xFFF4000000000000} {
		list = append(list, math.Float64frombits(n))
	}
	return list
}

// unlike answers requests that may stand, no two of which are the same: from one to the next some are changed by one field alone.
func unlike() []api.Request {
	return []api.Request{
		null(),
		put("k", 0), put("k", minusNought), put("k", 1), put("k", nans()[0]), put("k", math.Inf(1)), put("k", math.Inf(-1)),
		put("k", math.SmallestNonzeroFloat64), put("k", math.MaxFloat64), put("K", 0), put("kk", 0), put("\x00", 0), put(strings.Repeat("k", 16), 0),
		request(2, 1, api.OpPut, "k", 0, 0), request(8, 1, api.OpPut, "k", 0, 0),
		request(1, 2, api.OpPut, "k", 0, 0), request(1, lastStamp, api.OpPut, "k", 0, 0), request(1, 257, api.OpPut, "k", 0, 0),
		request(1, 1, api.OpAdd, "k", 0, 0), request(1, 1, api.OpMax, "k", 0, 0), request(1, 1, api.OpCut, "k", 0, 0), request(1, 1, api.OpGet, "k", 0, 0),
		join(0), join(1), join(15), request(3, 1, api.OpLeave, "", 0, 0), request(3, 1, api.OpLeave, "", 0, 15),
	}
}

// neither answers requests that are neither right nor null.
func neither() []api.Request {
	return []api.Request{
		{Client: 1}, {Stamp: 1}, {Client: 1, Stamp: 1}, {Op: api.Op{Kind: api.OpGet, Key: "k"}},
		{Op: api.Op{ID: 1}}, {Op: api.Op{Key: "k"}}, {Op: api.Op{Real: minusNought}}, {Op: api.Op{Real: math.NaN()}}, {Op: api.Op{Real: 1}},
		request(0, 1, api.OpPut, "k", 0, 0), request(9, 1, api.OpPut, "k", 0, 0), request(-1, 1, api.OpPut, "k", 0, 0), request(257, 1, api.OpPut, "k", 0, 0), request(math.MinInt, 1, api.OpPut, "k", 0, 0),
		request(1, 0, api.OpPut, "k", 0, 0), request(1, -1, api.OpPut, "k", 0, 0), request(1, lastStamp+1, api.OpPut, "k", 0, 0), request(1, math.MaxInt, api.OpPut, "k", 0, 0),
		request(1, 1, 0, "k", 0, 0), request(1, 1, 8, "k", 0, 0), request(1, 1, -1, "k", 0, 0), request(1, 1, 257, "k", 0, 0),
		put("", 0), put(strings.Repeat("k", 17), 0), put(strings.Repeat("k", 100000), 0), request(1, 1, api.OpPut, "k", 0, 1),
		request(1, 1, api.OpGet, "k", minusNought, 0), request(1, 1, api.OpGet, "k", 1, 0), request(1, 1, api.OpCut, "k", math.NaN(), 0), get(""),
		join(16), join(-1), request(3, 1, api.OpJoin, "k", 0, 0), request(3, 1, api.OpLeave, "", minusNought, 0), request(3, 1, api.OpJoin, "", math.NaN(), 0),
	}
}

// strangers answers numbers that are none of the members.
func strangers(members []int) []int {
	list := []int{-1, -2, -16, 16, 17, 32, 100, 101, 108, 199, 256, 1 << 32, math.MinInt, math.MinInt + 1, math.MaxInt}
	for id := range ids {
		if !slices.Contains(members, id) {
			list = append(list, id)
		}
	}
	return list
}

// chosen answers those of the list whose bits the set has, and the others.
func chosen(list []int, set int) (in, out []int) {
	for i, v := range list {
		if set>>i&1 == 1 {
			in = append(in, v)
			continue
		}
		out = append(out, v)
	}
	return in, out
}

// orders answers each order of the first n numbers.
func orders(n int) iter.Seq[[]int] {
	return func(yield func([]int) bool) { turn(firstOf(n), 0, yield) }
}

// turn yields each order of the list that leaves its first k as they are, until it is told to end.
func turn(list []int, k int, yield func([]int) bool) bool {
	if k == len(list) {
		return yield(slices.Clone(list))
	}
	for i := k; i < len(list); i++ {
		list[k], list[i] = list[i], list[k]
		if !turn(list, k+1, yield) {
			return false
		}
		list[k], list[i] = list[i], list[k]
	}
	return true
}
