package terms_test

import (
	"math"
	"slices"
	"strings"
	"testing"

	"witan/api"
	"witan/terms"
)

const (
	least     = 4
	most      = 10
	ids       = 16
	lastEpoch = 60
	maxSigs   = 16
)

// quorums answers how many members must agree, by how many there are, written out.
func quorums() map[int]int {
	return map[int]int{4: 3, 5: 4, 6: 4, 7: 5, 8: 6, 9: 6, 10: 7}
}

// weakQuorums answers how many members can't all be bad, by how many there are, written out.
func weakQuorums() map[int]int {
	return map[int]int{4: 2, 5: 2, 6: 2, 7: 3, 8: 3, 9: 3, 10: 4}
}

// modelRight tells if the configuration is right: its members are just what is left of them when they are sorted, once each, within the numbers.
func modelRight(c api.Conf) bool {
	var kept []int
	for id := range ids {
		if slices.Contains(c.Members, id) {
			kept = append(kept, id)
		}
	}
	return slices.Equal(kept, c.Members) && quorums()[len(kept)] > 0 && c.Epoch >= 0 && c.Epoch <= lastEpoch
}

// modelGather takes what is wanted out of the list one by one, and sorts it at the end.
func modelGather(c api.Conf, text string, sigs []api.Sig) []api.Sig {
	var kept []api.Sig
	for _, s := range sigs {
		if s.Text == text && slices.Contains(c.Members, s.By) && !slices.Contains(kept, s) {
			kept = append(kept, s)
		}
	}
	slices.SortFunc(kept, func(a, b api.Sig) int {
		if a.By < b.By {
			return -1
		}
		return 1
	})
	return kept
}

// modelProves tells if the list is a proof: nothing goes when the members' signatures of the text are taken out of it, sorted, once each.
func modelProves(c api.Conf, text string, sigs []api.Sig) bool {
	return modelRight(c) && slices.Equal(sigs, modelGather(c, text, sigs)) && len(sigs) >= quorums()[len(c.Members)] && len(sigs) <= maxSigs
}

// modelDerivable looks for one signature that can't be made.
func modelDerivable(book []api.Sig, bad []int, sigs []api.Sig) bool {
	return !slices.ContainsFunc(sigs, func(s api.Sig) bool {
		return !slices.Contains(bad, s.By) && !slices.Contains(book, s)
	})
}

// by answers the signatures of the text by these, in this order.
func by(text string, list ...int) []api.Sig {
	var sigs []api.Sig
	for _, id := range list {
		sigs = append(sigs, api.Sig{By: id, Text: text})
	}
	return sigs
}

func conf(members ...int) api.Conf { return api.Conf{Epoch: 7, Members: members} }

// first answers the numbers 0 to n - 1.
func first(n int) []int {
	var list []int
	for id := range n {
		list = append(list, id)
	}
	return list
}

// last answers the n numbers up to 15.
func last(n int) []int {
	var list []int
	for id := ids - n; id < ids; id++ {
		list = append(list, id)
	}
	return list
}

// spread answers n numbers from 0 to 15 with gaps between them.
func spread(n int) []int {
	var list []int
	for i := range n {
		list = append(list, i*15/(n-1))
	}
	return list
}

// councils answers right members of every number of them.
func councils() [][]int {
	var all [][]int
	for n := least; n <= most; n++ {
		all = append(all, first(n), last(n), spread(n))
	}
	return all
}

// chosen answers those of the list whose bits the set has.
func chosen[T any](list []T, set int) []T {
	var kept []T
	for i, v := range list {
		if set>>i&1 == 1 {
			kept = append(kept, v)
		}
	}
	return kept
}

// rows goes through all lists of n out of the choices.
func rows[T any](choices []T, n int, visit func([]T)) {
	row := make([]T, n)
	var fill func(int)
	fill = func(at int) {
		if at == n {
			visit(slices.Clone(row))
			return
		}
		for _, v := range choices {
			row[at] = v
			fill(at + 1)
		}
	}
	fill(0)
}

// orders goes through all orders of the list.
func orders[T any](list []T, visit func([]T)) {
	list = slices.Clone(list)
	var turn func(int)
	turn = func(at int) {
		if at == len(list) {
			visit(slices.Clone(list))
			return
		}
		for i := at; i < len(list); i++ {
			list[at], list[i] = list[i], list[at]
			turn(at + 1)
			list[at], list[i] = list[i], list[at]
		}
	}
	turn(0)
}

// wrongConfs answers configurations that are not right, by what is wrong.
func wrongConfs() map[string]api.Conf {
	return map[string]api.Conf{
		"the zero one":         {},
		"no members":           conf(),
		"no members, of room":  {Members: make([]int, 0, 8)},
		"one":                  conf(3),
		"three":                conf(1, 2, 3),
		"eleven":               conf(first(11)...),
		"eleven, the last":     conf(last(11)...),
		"sixteen":              conf(first(16)...),
		"falling":              conf(4, 3, 2, 1),
		"not rising, first":    conf(1, 0, 2, 3),
		"not rising, last":     conf(0, 1, 3, 2),
		"ten, not rising":      conf(0, 1, 2, 3, 4, 5, 6, 7, 9, 8),
		"twice, first":         conf(0, 0, 1, 2, 3),
		"twice, last":          conf(0, 1, 2, 15, 15),
		"twice, apart":         conf(3, 1, 2, 3, 0),
		"all the same":         conf(7, 7, 7, 7),
		"-1":                   conf(-1, 0, 1, 2, 3),
		"16":                   conf(0, 1, 2, 3, 16),
		"a client":             conf(0, 1, 2, 101),
		"the least int":        conf(math.MinInt, 0, 1, 2, 3),
		"the greatest int":     conf(0, 1, 2, 3, math.MaxInt),
		"the epoch -1":         {Epoch: -1, Members: first(4)},
		"the epoch 61":         {Epoch: 61, Members: first(4)},
		"the epoch 65536":      {Epoch: 65536, Members: last(10)},
		"the least epoch":      {Epoch: math.MinInt, Members: first(7)},
		"the greatest epoch":   {Epoch: math.MaxInt, Members: first(7)},
		"wrong all over":       {Epoch: -5, Members: []int{16, 3, 3, -1, math.MaxInt, 0, math.MinInt}},
		"very many, the same":  {Members: make([]int, 100000)},
		"very many, falling":   {Members: falling(100000)},
		"eleven, ten unlike":   conf(0, 1, 2, 3, 4, 5, 6, 7, 8, 9, 9),
		"four, three unlike":   conf(0, 1, 2, 2),
		"an epoch beside none": {Epoch: 60},
	}
}

func falling(n int) []int {
	list := make([]int, n)
	for i := range list {
		list[i] = n - i
	}
	return list
}

// oddNumbers answers numbers of nobody, at the edges and far off.
func oddNumbers() []int {
	return []int{-1, 16, 17, 100, 101, 108, 255, 256, -16, 1 << 31, -1 << 31, 1 << 32, math.MinInt, math.MinInt + 1, math.MaxInt}
}

// unlikeTexts answers texts of which no two are the same, however near they are.
func unlikeTexts() []string {
	return []string{
		"", " ", "\x00", "\x00\x00", "x", "X", "xx", "x ", " x", "x\x00", "x\x00y", "x\x00z", "y", "\xff", "\xfe", "\xc3\x28", "é", "e\u0301",
		strings.Repeat("x", 65535), strings.Repeat("x", 65536), strings.Repeat("x", 65535) + "y", "y" + strings.Repeat("x", 65535),
	}
}

// short answers a list as it may be told of: of a long one no more than its length.
func short(sigs []api.Sig) any {
	if len(sigs) > 40 {
		return len(sigs)
	}
	return sigs
}

func expectProves(t *testing.T, c api.Conf, text string, sigs []api.Sig, want bool) {
	t.Helper()
	if got := terms.Proves(c, text, sigs); got != want {
		t.Errorf("Proves(%v, %.20q, %.20q): %v", c, text, short(sigs), got)
	}
}

// expectGather expects these signatures, and as many counted.
func expectGather(t *testing.T, c api.Conf, text string, sigs, want []api.Sig) {
	t.Helper()
	if got := terms.Gather(c, text, sigs); !slices.Equal(got, want) {
		t.Errorf("Gather(%d members, %.20q, %.20q): %.20q, not %.20q", len(c.Members), text, short(sigs), short(got), short(want))
	}
	if got := terms.Count(c, text, sigs); got != len(want) {
		t.Errorf("Count(%d members, %.20q, %.20q): %d, not %d", len(c.Members), text, short(sigs), got, len(want))
	}
}

// expectAsModel holds all three calls against the model.
func expectAsModel(t *testing.T, c api.Conf, text string, sigs []api.Sig) {
	t.Helper()
	expectProves(t, c, text, sigs, modelProves(c, text, sigs))
	expectGather(t, c, text, sigs, modelGather(c, text, sigs))
}

// bookOf answers a book in which these stand.
func bookOf(sigs ...api.Sig) *terms.Book {
	b := terms.New()
	b.Note(sigs...)
	return b
}

// expectStand expects that just these stand in the book, which are all unlike.
func expectStand(t *testing.T, b *terms.Book, in, out []api.Sig) {
	t.Helper()
	if got := b.Len(); got != len(in) {
		t.Errorf("Len: %d, not %d", got, len(in))
	}
	for _, s := range in {
		if !b.Has(s) {
			t.Errorf("Has(%d, %.20q): false", s.By, s.Text)
		}
	}
	for _, s := range out {
		if b.Has(s) {
			t.Errorf("Has(%d, %.20q): true", s.By, s.Text)
		}
	}
}

func expectDerivable(t *testing.T, b *terms.Book, bad []int, sigs []api.Sig, want bool) {
	t.Helper()
	if got := b.Derivable(bad, sigs); got != want {
		t.Errorf("Derivable(%v, %.20q) of a book of %d: %v", bad, short(sigs), b.Len(), got)
	}
}
