package votes_test

import (
	"iter"
	"math"
	"slices"
	"strings"

	"witan/api"
)

func conf(epoch int, members ...int) api.Conf {
	return api.Conf{Epoch: epoch, Members: slices.Clone(members)}
}

// firstOf answers the numbers 0 to n - 1.
func firstOf(n int) []int {
	var list []int
	for id := range n {
		list = append(list, id)
	}
	return list
}

// lastOf answers the n numbers up to 15.
func lastOf(n int) []int {
	var list []int
	for id := ids - n; id < ids; id++ {
		list = append(list, id)
	}
	return list
}

// spread answers n numbers from 0 to 15 with gaps between them.
func spread(n int) []int {
	var list []int
	for i := range n {
		list = append(list, i*15/(n-1))
	}
	return list
}

// someConfs answers right configurations of every number of members, of the first epoch, the last one but one and some between. (Behind the last one comes none: nobody can vote there.)
func someConfs() []api.Conf {
	var all []api.Conf
	for n := least; n <= most; n++ {
		for i, epoch := range []int{0, 1, 31, 58, lastEpoch - 1} {
			all = append(all, conf(epoch, [][]int{firstOf(n), lastOf(n), spread(n)}[(n+i)%3]...))
		}
	}
	return all
}

// wrongMembers answers lists that no configuration may have, by what is wrong.
func wrongMembers() map[string][]int {
	return map[string][]int{
		"nil":                 nil,
		"empty":               {},
		"one":                 {3},
		"three":               {1, 2, 3},
		"eleven":              firstOf(11),
		"sixteen":             firstOf(16),
		"falling":             {4, 3, 2, 1},
		"not rising":          {0, 1, 3, 2},
		"twice, first":        {0, 0, 1, 2, 3},
		"twice, last":         {0, 1, 2, 15, 15},
		"all the same":        {7, 7, 7, 7},
		"-1":                  {-1, 0, 1, 2, 3},
		"-1, last":            {0, 1, 2, -1},
		"16":                  {0, 1, 2, 3, 16},
		"256":                 {0, 1, 2, 256},
		"a client":            {0, 1, 2, 101},
		"the least int":       {math.MinInt, 0, 1, 2, 3},
		"the greatest int":    {0, 1, 2, 3, math.MaxInt},
		"very many, the same": make([]int, 100000),
	}
}

// wrongConfs answers configurations that are not right, by what is wrong.
func wrongConfs() map[string]api.Conf {
	all := map[string]api.Conf{
		"the zero one":       {},
		"the epoch -1":       conf(-1, firstOf(4)...),
		"the epoch 61":       conf(61, firstOf(4)...),
		"the least epoch":    conf(math.MinInt, firstOf(7)...),
		"the greatest epoch": conf(math.MaxInt, firstOf(7)...),
	}
	for name, members := range wrongMembers() {
		all[name] = api.Conf{Epoch: 3, Members: members}
	}
	return all
}

// everyByte answers a text of all bytes there are.
func everyByte() string {
	var b strings.Builder
	for i := range 256 {
		b.WriteByte(byte(i))
	}
	return b.String()
}

// states answers bytes of states, no two of them alike: some go on where another one ends, some differ in one byte, some are of more bytes than a message has.
func states() []string {
	return []string{
		"a", "b", "ab", "abc", "abd", "Abc", "abc\x00", "\x00", "\x00\x00", "\xff", "S", "S\x00\x00\x00\x04a", "C\x00\x01\x04\x00\x01\x02\x03", "P", " ", "\n", "\xc3\x28", "ä",
		everyByte(), strings.Repeat("s", 65535), strings.Repeat("s", 65536), strings.Repeat("s", 65537), strings.Repeat("s", 65536) + "t", strings.Repeat("long", 100000),
	}
}

// nexts answers right lists of members, no two of them alike.
func nexts() [][]int {
	return [][]int{
		{0, 1, 2, 3}, {0, 1, 2, 4}, {1, 2, 3, 4}, {0, 1, 2, 15}, {12, 13, 14, 15}, {0, 1, 2, 3, 4}, {0, 1, 2, 3, 9}, {0, 2, 4, 6, 8, 10, 12},
		firstOf(9), firstOf(10), lastOf(10), spread(10), {0, 1, 2, 3, 4, 5, 6, 7, 8, 15},
	}
}

// strangers answers numbers that are none of the members.
func strangers(members []int) []int {
	list := []int{-1, -2, -16, 16, 17, 32, 100, 101, 108, 199, 256, 1 << 32, math.MinInt, math.MinInt + 1, math.MaxInt}
	for id := range ids {
		if !slices.Contains(members, id) {
			list = append(list, id)
		}
	}
	return list
}

// chosen answers those of the list whose bits the set has, and the others.
func chosen(list []int, set int) (in, out []int) {
	for i, v := range list {
		if set>>i&1 == 1 {
			in = append(in, v)
			continue
		}
		out = append(out, v)
	}
	return in, out
}

// backward answers the list the other way round.
func backward(list []int) []int {
	other := slices.Clone(list)
	slices.Reverse(other)
	return other
}

// orders answers each order of the first n numbers.
func orders(n int) iter.Seq[[]int] {
	return func(yield func([]int) bool) { turn(firstOf(n), 0, yield) }
}

// turn yields each order of the list that leaves its first k as they are, until it is told to end.
func turn(list []int, k int, yield func([]int) bool) bool {
	if k == len(list) {
		return yield(slices.Clone(list))
	}
	for i := k; i < len(list); i++ {
		list[k], list[i] = list[i], list[k]
		if !turn(list, k+1, yield) {
			return false
		}
		list[k], list[i] = list[i], list[k]
	}
	return true
}
