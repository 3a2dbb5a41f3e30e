package council_test

import (
	"math"
	"math/big"
	"math/bits"
	"slices"
	"strings"
	"testing"

	"witan/api"
	"witan/council"
)

const (
	least     = 4
	most      = 10
	ids       = 16
	lastEpoch = 60
)

// modelCounts answers the faults, the quorum and the weak quorum as the chapter tells them, in numbers that have no greatest one.
func modelCounts(n int) [3]int {
	if n < 1 {
		return [3]int{}
	}
	all := big.NewInt(int64(n))
	faults := new(big.Int).Sub(all, big.NewInt(1))
	faults.Quo(faults, big.NewInt(3))
	quorum := new(big.Int).Add(all, faults)
	quorum.Quo(quorum, big.NewInt(2)).Add(quorum, big.NewInt(1))
	weak := new(big.Int).Add(faults, big.NewInt(1))
	return [3]int{int(faults.Int64()), int(quorum.Int64()), int(weak.Int64())}
}

// modelRight tells if the members are right: as many as may be, and just what is left of them when they are sorted, once each, within the numbers.
func modelRight(members []int) bool {
	var kept []int
	for id := range ids {
		if slices.Contains(members, id) {
			kept = append(kept, id)
		}
	}
	return slices.Equal(kept, members) && len(kept) >= least && len(kept) <= most
}

func modelJoin(members []int, id int) ([]int, api.Errno) {
	switch {
	case !modelRight(members), id < 0, id > 15:
		return nil, api.ErrArg
	case slices.Contains(members, id):
		return nil, api.ErrSame
	case len(members) == most:
		return nil, api.ErrMany
	}
	return slices.Sorted(slices.Values(append(slices.Clone(members), id))), api.OK
}

func modelLeave(members []int, id int) ([]int, api.Errno) {
	switch {
	case !modelRight(members), id < 0, id > 15:
		return nil, api.ErrArg
	case !slices.Contains(members, id):
		return nil, api.ErrAbsent
	case len(members) == least:
		return nil, api.ErrFew
	}
	var others []int
	for _, other := range members {
		if other != id {
			others = append(others, other)
		}
	}
	return others, api.OK
}

// modelText answers the bytes of a right configuration.
func modelText(c api.Conf) string {
	bytes := []byte{67, byte(c.Epoch / 256), byte(c.Epoch % 256), byte(len(c.Members))}
	for _, id := range c.Members {
		bytes = append(bytes, byte(id))
	}
	return string(bytes)
}

// modelRead takes the only configuration whose bytes the text could be, and looks if they are.
func modelRead(text string) (api.Conf, api.Errno) {
	if len(text) < 4 {
		return api.Conf{}, api.ErrBytes
	}
	c := api.Conf{Epoch: 256*int(text[1]) + int(text[2])}
	for _, id := range []byte(text[4:]) {
		c.Members = append(c.Members, int(id))
	}
	if c.Epoch > lastEpoch || !modelRight(c.Members) || modelText(c) != text {
		return api.Conf{}, api.ErrBytes
	}
	return c, api.OK
}

// first answers the members 0 to n - 1.
func first(n int) []int {
	var members []int
	for id := range n {
		members = append(members, id)
	}
	return members
}

// last answers the n members up to 15.
func last(n int) []int {
	var members []int
	for id := ids - n; id < ids; id++ {
		members = append(members, id)
	}
	return members
}

// chosen answers the members whose bits the set has.
func chosen(set uint) []int {
	var members []int
	for id := range ids {
		if set>>id&1 == 1 {
			members = append(members, id)
		}
	}
	return members
}

// wrongMembers answers members that are not right, by what is wrong.
func wrongMembers() map[string][]int {
	return map[string][]int{
		"none":              nil,
		"none, of room":     make([]int, 0, 8),
		"one":               {3},
		"three":             {0, 1, 2},
		"eleven":            first(11),
		"eleven, the last":  last(11),
		"sixteen":           first(16),
		"falling":           {4, 3, 2, 1},
		"not rising, first": {1, 0, 2, 3},
		"not rising, last":  {0, 1, 3, 2},
		"ten, not rising":   {0, 1, 2, 3, 4, 5, 6, 7, 9, 8},
		"twice, first":      {0, 0, 1, 2, 3},
		"twice, last":       {0, 1, 2, 15, 15},
		"all the same":      {7, 7, 7, 7},
		"-1":                {-1, 0, 1, 2, 3},
		"16":                {0, 1, 2, 3, 16},
		"the least int":     {math.MinInt, 0, 1, 2, 3},
		"the greatest int":  {0, 1, 2, 3, math.MaxInt},
		"255":               {0, 1, 2, 255},
		"a client":          {0, 1, 2, 101},
		"very many":         make([]int, 100000),
	}
}

func wrongEpochs() []int {
	return []int{-1, 61, 62, 255, 256, 65535, 65536, -60, math.MinInt, math.MaxInt}
}

func wrongIDs() []int {
	return []int{-1, 16, 17, 101, 255, 256, -16, math.MinInt, math.MaxInt}
}

func sameConf(a, b api.Conf) bool {
	return a.Epoch == b.Epoch && slices.Equal(a.Members, b.Members)
}

func expectCounts(t *testing.T, n int, want [3]int) {
	t.Helper()
	if got := [3]int{council.Faults(n), council.Quorum(n), council.Weak(n)}; got != want {
		t.Errorf("of %d members: %v, not %v", n, got, want)
	}
}

func expectRight(t *testing.T, c api.Conf, want bool) {
	t.Helper()
	if got := council.Right(c); got != want {
		t.Errorf("Right(%v): %v", c, got)
	}
}

func expectHas(t *testing.T, c api.Conf, id int, want bool) {
	t.Helper()
	if got := council.Has(c, id); got != want {
		t.Errorf("Has(%v, %d): %v", c, id, got)
	}
}

func expectPrimary(t *testing.T, c api.Conf, view, want int, wantOK bool) {
	t.Helper()
	if got, ok := council.Primary(c, view); got != want || ok != wantOK {
		t.Errorf("Primary(%v, %d): %d %v, not %d %v", c, view, got, ok, want, wantOK)
	}
}

func expectJoin(t *testing.T, members []int, id int, want []int, wantErr api.Errno) {
	t.Helper()
	if got, err := council.Join(members, id); err != wantErr || !slices.Equal(got, want) {
		t.Errorf("Join(%v, %d): %v %d, not %v %d", members, id, got, err, want, wantErr)
	}
}

func expectLeave(t *testing.T, members []int, id int, want []int, wantErr api.Errno) {
	t.Helper()
	if got, err := council.Leave(members, id); err != wantErr || !slices.Equal(got, want) {
		t.Errorf("Leave(%v, %d): %v %d, not %v %d", members, id, got, err, want, wantErr)
	}
}

func expectText(t *testing.T, c api.Conf, want string, wantErr api.Errno) {
	t.Helper()
	if got, err := council.Text(c); got != want || err != wantErr {
		t.Errorf("Text(%v): %q %d, not %q %d", c, got, err, want, wantErr)
	}
}

func expectRead(t *testing.T, text string, want api.Conf, wantErr api.Errno) {
	t.Helper()
	if got, err := council.Read(text); err != wantErr || !sameConf(got, want) {
		t.Errorf("Read(%q): %v %d, not %v %d", text, got, err, want, wantErr)
	}
}

// P7.1: the chapter's examples.

func TestExamples(t *testing.T) {
	expectCounts(t, 4, [3]int{1, 3, 2})
	expectCounts(t, 5, [3]int{1, 4, 2})
	expectCounts(t, 7, [3]int{2, 5, 3})
	expectCounts(t, 10, [3]int{3, 7, 4})
	expectJoin(t, []int{1, 2, 3, 4}, 0, []int{0, 1, 2, 3, 4}, api.OK)
}

// P7.1: faults and quorums.

func TestCountsWrittenOut(t *testing.T) {
	for n, want := range [][3]int{
		{0, 0, 0}, {0, 1, 1}, {0, 2, 1}, {0, 2, 1}, {1, 3, 2}, {1, 4, 2}, {1, 4, 2}, {2, 5, 3},
		{2, 6, 3}, {2, 6, 3}, {3, 7, 4}, {3, 8, 4}, {3, 8, 4}, {4, 9, 5}, {4, 10, 5}, {4, 10, 5}, {5, 11, 6},
	} {
		expectCounts(t, n, want)
	}
}

func TestCountsBelowOneAreZero(t *testing.T) {
	for _, n := range []int{0, -1, -2, -3, -4, -5, -10, -1000, math.MinInt + 1, math.MinInt} {
		expectCounts(t, n, [3]int{})
	}
}

func TestCountsOfManyMembers(t *testing.T) {
	for n := -100; n <= 5000; n++ {
		expectCounts(t, n, modelCounts(n))
	}
	for back := range 100 {
		expectCounts(t, math.MaxInt-back, modelCounts(math.MaxInt-back))
		expectCounts(t, math.MaxInt/2-50+back, modelCounts(math.MaxInt/2-50+back))
		expectCounts(t, math.MaxInt/4*3-50+back, modelCounts(math.MaxInt/4*3-50+back))
	}
}

// P7.2: what quorums have in common.

func TestAnyTwoQuorumsShareAWeakQuorum(t *testing.T) {
	for n := 1; n <= most; n++ {
		var quorums []uint
		for set := range uint(1) << n {
			if bits.OnesCount(set) >= council.Quorum(n) {
				quorums = append(quorums, set)
			}
		}
		if len(quorums) == 0 {
			t.Errorf("of %d members no set is a quorum", n)
		}
		for _, one := range quorums {
			for _, other := range quorums {
				if bits.OnesCount(one&other) < council.Weak(n) {
					t.Fatalf("of %d members: %b and %b have too few in common", n, one, other)
				}
			}
		}
	}
}

// Two sets of q have the fewest in common where one has all that the other lacks: 2 q - n.
func TestQuorumsOfManyMembers(t *testing.T) {
	for n := 1; n <= 100000; n++ {
		faults, quorum, weak := council.Faults(n), council.Quorum(n), council.Weak(n)
		if 2*quorum-n < weak {
			t.Errorf("of %d members two quorums may have %d in common", n, 2*quorum-n)
		}
		if n-faults < quorum {
			t.Errorf("of %d members %d are no quorum without the faults", n, n-faults)
		}
		if weak != faults+1 {
			t.Errorf("of %d members a weak quorum has %d, the faults %d", n, weak, faults)
		}
	}
}

func TestQuorumsOfTheGreatestInt(t *testing.T) {
	n := math.MaxInt
	faults, quorum, weak := council.Faults(n), council.Quorum(n), council.Weak(n)
	if quorum-(n-quorum) < weak || n-faults < quorum || weak != faults+1 {
		t.Error(faults, quorum, weak)
	}
}

// P7.1: what is right.

func TestRightByEpoch(t *testing.T) {
	for epoch := -70; epoch <= 140; epoch++ {
		expectRight(t, api.Conf{Epoch: epoch, Members: []int{0, 3, 7, 15}}, epoch >= 0 && epoch <= 60)
	}
	for _, epoch := range wrongEpochs() {
		expectRight(t, api.Conf{Epoch: epoch, Members: first(10)}, false)
	}
}

func TestRightByHowManyMembers(t *testing.T) {
	for n := range ids + 1 {
		want := n >= 4 && n <= 10
		expectRight(t, api.Conf{Members: first(n)}, want)
		expectRight(t, api.Conf{Epoch: 60, Members: last(n)}, want)
	}
}

func TestRightOfAllSets(t *testing.T) {
	for set := range uint(1) << ids {
		n := bits.OnesCount(set)
		if got := council.Right(api.Conf{Epoch: 1, Members: chosen(set)}); got != (n >= 4 && n <= 10) {
			t.Fatalf("Right of the members %v: %v", chosen(set), got)
		}
	}
}

// Every row of four and of five out of numbers about the edges: rising or not, twice, too small, too great.
func TestRightOfAllRows(t *testing.T) {
	numbers := []int{-1, 0, 1, 2, 14, 15, 16}
	for n := 4; n <= 5; n++ {
		rows := 1
		for range n {
			rows *= len(numbers)
		}
		for row := range rows {
			var members []int
			for range n {
				members = append(members, numbers[row%len(numbers)])
				row /= len(numbers)
			}
			expectRight(t, api.Conf{Members: members}, modelRight(members))
		}
	}
}

func TestRightOfWrongMembers(t *testing.T) {
	for what, members := range wrongMembers() {
		for _, epoch := range []int{0, 1, 60} {
			if council.Right(api.Conf{Epoch: epoch, Members: members}) {
				t.Errorf("%s: right in the epoch %d", what, epoch)
			}
		}
	}
	expectRight(t, api.Conf{}, false)
}

// P7.1: who is a member.

func TestHasOfRightOnes(t *testing.T) {
	for _, set := range []uint{0b1111, 0b1000000010001001, 0b1111111111, 0b1111000000000000, 0b1010101010101010} {
		c := api.Conf{Epoch: 60, Members: chosen(set)}
		for id := range ids {
			expectHas(t, c, id, set>>id&1 == 1)
		}
		for _, id := range wrongIDs() {
			expectHas(t, c, id, false)
		}
	}
}

func TestHasOfAnyConfiguration(t *testing.T) {
	odd := api.Conf{Epoch: -1, Members: []int{16, 3, 3, -1, math.MaxInt, 0, math.MinInt}}
	for _, id := range odd.Members {
		expectHas(t, odd, id, true)
	}
	for _, id := range []int{1, 2, 4, 15, 17, -2} {
		expectHas(t, odd, id, false)
	}
	expectHas(t, api.Conf{}, 0, false)
	expectHas(t, api.Conf{Members: []int{}}, 0, false)
	expectHas(t, api.Conf{Epoch: 61, Members: []int{5}}, 5, true)
	expectHas(t, api.Conf{Epoch: 0, Members: first(16)}, 15, true)
	expectHas(t, api.Conf{Epoch: 0, Members: []int{4, 3, 2, 1}}, 4, true)
	expectHas(t, api.Conf{Epoch: 0, Members: []int{4, 3, 2, 1}}, 1, true)
}

// P7.1: who leads.

func TestPrimaryGoesRound(t *testing.T) {
	for n := least; n <= most; n++ {
		for _, members := range [][]int{first(n), last(n)} {
			for _, epoch := range []int{0, 60} {
				c := api.Conf{Epoch: epoch, Members: members}
				at := 0
				for view := range 5*n + 1 {
					expectPrimary(t, c, view, members[at], true)
					at++
					if at == n {
						at = 0
					}
				}
			}
		}
	}
}

func TestPrimaryAtTheEdges(t *testing.T) {
	c := api.Conf{Epoch: 3, Members: []int{1, 3, 7, 11, 15}}
	expectPrimary(t, c, 0, 1, true)
	expectPrimary(t, c, 4, 15, true)
	expectPrimary(t, c, 5, 1, true)
	expectPrimary(t, c, 6, 3, true)
	expectPrimary(t, c, api.MaxView, 1, true)
	expectPrimary(t, c, api.MaxView+1, 3, true)
}

func TestPrimaryOfTheGreatestView(t *testing.T) {
	for n := least; n <= most; n++ {
		members := last(n)
		at := new(big.Int).Mod(big.NewInt(math.MaxInt), big.NewInt(int64(n))).Int64()
		expectPrimary(t, api.Conf{Members: members}, math.MaxInt, members[at], true)
	}
}

func TestPrimaryBelowNoView(t *testing.T) {
	for n := least; n <= most; n++ {
		for _, view := range []int{-1, -n, -n - 1, -1000, math.MinInt + 1, math.MinInt} {
			expectPrimary(t, api.Conf{Members: last(n)}, view, 0, false)
		}
	}
}

func TestPrimaryOfWrongOnes(t *testing.T) {
	for _, view := range []int{math.MinInt, -1, 0, 1, 4, math.MaxInt} {
		for what, members := range wrongMembers() {
			if id, ok := council.Primary(api.Conf{Members: members}, view); id != 0 || ok {
				t.Errorf("%s: %d %v", what, id, ok)
			}
		}
		for _, epoch := range wrongEpochs() {
			expectPrimary(t, api.Conf{Epoch: epoch, Members: last(4)}, view, 0, false)
		}
	}
}

// P7.1 and P7.3: who comes and goes.

func TestJoinAtEveryPlace(t *testing.T) {
	expectJoin(t, []int{2, 4, 6, 8}, 0, []int{0, 2, 4, 6, 8}, api.OK)
	expectJoin(t, []int{2, 4, 6, 8}, 1, []int{1, 2, 4, 6, 8}, api.OK)
	expectJoin(t, []int{2, 4, 6, 8}, 3, []int{2, 3, 4, 6, 8}, api.OK)
	expectJoin(t, []int{2, 4, 6, 8}, 5, []int{2, 4, 5, 6, 8}, api.OK)
	expectJoin(t, []int{2, 4, 6, 8}, 7, []int{2, 4, 6, 7, 8}, api.OK)
	expectJoin(t, []int{2, 4, 6, 8}, 9, []int{2, 4, 6, 8, 9}, api.OK)
	expectJoin(t, []int{2, 4, 6, 8}, 15, []int{2, 4, 6, 8, 15}, api.OK)
	expectJoin(t, first(9), 15, []int{0, 1, 2, 3, 4, 5, 6, 7, 8, 15}, api.OK)
	expectJoin(t, last(9), 0, []int{0, 7, 8, 9, 10, 11, 12, 13, 14, 15}, api.OK)
}

func TestLeaveAtEveryPlace(t *testing.T) {
	expectLeave(t, []int{0, 4, 6, 8, 15}, 0, []int{4, 6, 8, 15}, api.OK)
	expectLeave(t, []int{0, 4, 6, 8, 15}, 4, []int{0, 6, 8, 15}, api.OK)
	expectLeave(t, []int{0, 4, 6, 8, 15}, 6, []int{0, 4, 8, 15}, api.OK)
	expectLeave(t, []int{0, 4, 6, 8, 15}, 8, []int{0, 4, 6, 15}, api.OK)
	expectLeave(t, []int{0, 4, 6, 8, 15}, 15, []int{0, 4, 6, 8}, api.OK)
	expectLeave(t, first(10), 9, first(9), api.OK)
	expectLeave(t, last(10), 6, last(9), api.OK)
}

func TestJoinRefuses(t *testing.T) {
	for _, id := range wrongIDs() {
		for n := least; n <= most; n++ {
			expectJoin(t, first(n), id, nil, api.ErrArg)
		}
	}
	for _, id := range first(4) {
		expectJoin(t, first(4), id, nil, api.ErrSame)
	}
	for _, id := range first(10) {
		expectJoin(t, first(10), id, nil, api.ErrSame)
	}
	for _, id := range last(6) {
		expectJoin(t, first(10), id, nil, api.ErrMany)
	}
}

func TestLeaveRefuses(t *testing.T) {
	for _, id := range wrongIDs() {
		for n := least; n <= most; n++ {
			expectLeave(t, first(n), id, nil, api.ErrArg)
		}
	}
	for _, id := range last(12) {
		expectLeave(t, first(4), id, nil, api.ErrAbsent)
	}
	for _, id := range last(6) {
		expectLeave(t, first(10), id, nil, api.ErrAbsent)
	}
	for _, id := range first(4) {
		expectLeave(t, first(4), id, nil, api.ErrFew)
	}
}

func TestJoinAndLeaveOfWrongMembers(t *testing.T) {
	for what, members := range wrongMembers() {
		for _, id := range append(wrongIDs(), first(16)...) {
			if list, err := council.Join(members, id); len(list) != 0 || err != api.ErrArg {
				t.Errorf("%s, %d joins: %v %d", what, id, list, err)
			}
			if list, err := council.Leave(members, id); len(list) != 0 || err != api.ErrArg {
				t.Errorf("%s, %d leaves: %v %d", what, id, list, err)
			}
		}
	}
}

// All sets of members that can be, right or not, and all who could come or go.
func TestJoinAndLeaveOfAllSets(t *testing.T) {
	for set := range uint(1) << ids {
		members := chosen(set)
		for id := -1; id <= ids; id++ {
			want, wantErr := modelJoin(members, id)
			expectJoin(t, members, id, want, wantErr)
			want, wantErr = modelLeave(members, id)
			expectLeave(t, members, id, want, wantErr)
		}
		if t.Failed() {
			return
		}
	}
}

// P7.3, by the package's own calls: what is answered is right, and coming and going undo each other.
func TestComingAndGoing(t *testing.T) {
	for set := range uint(1) << ids {
		members := chosen(set)
		for id := range ids {
			if more, err := council.Join(members, id); err == api.OK {
				expectRight(t, api.Conf{Members: more}, true)
				expectHas(t, api.Conf{Members: more}, id, true)
				expectLeave(t, more, id, members, api.OK)
			}
			if fewer, err := council.Leave(members, id); err == api.OK {
				expectRight(t, api.Conf{Members: fewer}, true)
				expectHas(t, api.Conf{Members: fewer}, id, false)
				expectJoin(t, fewer, id, members, api.OK)
			}
		}
		if t.Failed() {
			return
		}
	}
}

// A council that grows to the most and shrinks to the least, each answer handed in to the next call.
func TestCouncilGrowsAndShrinks(t *testing.T) {
	members := []int{6, 7, 8, 9}
	step := func(call func([]int, int) ([]int, api.Errno), id int, want ...int) {
		t.Helper()
		next, err := call(members, id)
		if err != api.OK || !slices.Equal(next, want) {
			t.Fatalf("%v and %d: %v %d, not %v", members, id, next, err, want)
		}
		members = next
	}
	step(council.Join, 15, 6, 7, 8, 9, 15)
	step(council.Join, 0, 0, 6, 7, 8, 9, 15)
	step(council.Join, 10, 0, 6, 7, 8, 9, 10, 15)
	step(council.Leave, 7, 0, 6, 8, 9, 10, 15)
	step(council.Join, 14, 0, 6, 8, 9, 10, 14, 15)
	step(council.Join, 1, 0, 1, 6, 8, 9, 10, 14, 15)
	step(council.Join, 7, 0, 1, 6, 7, 8, 9, 10, 14, 15)
	step(council.Join, 2, 0, 1, 2, 6, 7, 8, 9, 10, 14, 15)
	expectJoin(t, members, 3, nil, api.ErrMany)
	step(council.Leave, 15, 0, 1, 2, 6, 7, 8, 9, 10, 14)
	step(council.Leave, 0, 1, 2, 6, 7, 8, 9, 10, 14)
	step(council.Leave, 8, 1, 2, 6, 7, 9, 10, 14)
	step(council.Leave, 9, 1, 2, 6, 7, 10, 14)
	step(council.Leave, 14, 1, 2, 6, 7, 10)
	step(council.Leave, 1, 2, 6, 7, 10)
	expectLeave(t, members, 2, nil, api.ErrFew)
}

// P7.1: bytes there and back.

func TestTextsWrittenOut(t *testing.T) {
	for text, c := range map[string]api.Conf{
		"C\x00\x00\x04\x00\x01\x02\x03":                         {Epoch: 0, Members: first(4)},
		"C\x00\x3c\x04\x0c\x0d\x0e\x0f":                         {Epoch: 60, Members: last(4)},
		"C\x00\x03\x04\x00\x03\x07\x0f":                         {Epoch: 3, Members: []int{0, 3, 7, 15}},
		"C\x00\x01\x05\x01\x03\x05\x07\x09":                     {Epoch: 1, Members: []int{1, 3, 5, 7, 9}},
		"C\x00\x3b\x0a\x00\x01\x02\x03\x04\x05\x06\x07\x08\x09": {Epoch: 59, Members: first(10)},
		"C\x00\x10\x0a\x06\x07\x08\x09\x0a\x0b\x0c\x0d\x0e\x0f": {Epoch: 16, Members: last(10)},
	} {
		expectText(t, c, text, api.OK)
		expectRead(t, text, c, api.OK)
	}
}

func TestThereAndBackOfAllCouncils(t *testing.T) {
	sizes := map[int]int{}
	for set := range uint(1) << ids {
		c := api.Conf{Epoch: int(set % (lastEpoch + 1)), Members: chosen(set)}
		if !modelRight(c.Members) {
			expectText(t, c, "", api.ErrArg)
			expectRead(t, modelText(c), api.Conf{}, api.ErrBytes)
		} else {
			sizes[len(c.Members)]++
			expectText(t, c, modelText(c), api.OK)
			expectRead(t, modelText(c), c, api.OK)
		}
		if t.Failed() {
			return
		}
	}
	if len(sizes) != most-least+1 {
		t.Error("not every size of council was there:", sizes)
	}
}

func TestTextOfEveryEpoch(t *testing.T) {
	seen := map[string]int{}
	for epoch := range lastEpoch + 1 {
		for n := least; n <= most; n++ {
			c := api.Conf{Epoch: epoch, Members: last(n)}
			expectText(t, c, modelText(c), api.OK)
			expectRead(t, modelText(c), c, api.OK)
			seen[modelText(c)]++
		}
	}
	if len(seen) != (lastEpoch+1)*(most-least+1) {
		t.Error("two configurations have one text")
	}
}

func TestTextOfWrongOnes(t *testing.T) {
	for what, members := range wrongMembers() {
		if text, err := council.Text(api.Conf{Epoch: 1, Members: members}); text != "" || err != api.ErrArg {
			t.Errorf("%s: %q %d", what, text, err)
		}
	}
	for _, epoch := range wrongEpochs() {
		expectText(t, api.Conf{Epoch: epoch, Members: first(4)}, "", api.ErrArg)
	}
	expectText(t, api.Conf{}, "", api.ErrArg)
}

func TestReadOfCutAndLengthenedTexts(t *testing.T) {
	for n := least; n <= most; n++ {
		text := modelText(api.Conf{Epoch: 7, Members: first(n)})
		for size := range len(text) {
			expectRead(t, text[:size], api.Conf{}, api.ErrBytes)
			expectRead(t, text[size+1:], api.Conf{}, api.ErrBytes)
		}
		for _, more := range []string{"\x00", "\x0f", "C", text, strings.Repeat("\x00", 70000)} {
			expectRead(t, text+more, api.Conf{}, api.ErrBytes)
			expectRead(t, more+text, api.Conf{}, api.ErrBytes)
		}
	}
}

func TestReadOfAnotherFirstByte(t *testing.T) {
	for b := range 256 {
		text := string([]byte{byte(b)}) + "\x00\x05\x04\x00\x01\x02\x03"
		want, wantErr := api.Conf{}, api.ErrBytes
		if b == 67 {
			want, wantErr = api.Conf{Epoch: 5, Members: first(4)}, api.OK
		}
		expectRead(t, text, want, wantErr)
	}
}

func TestReadOfEveryWord(t *testing.T) {
	for epoch := range 1 << 16 {
		c := api.Conf{Epoch: epoch, Members: []int{2, 3, 5, 7, 11}}
		want, wantErr := c, api.OK
		if epoch > lastEpoch {
			want, wantErr = api.Conf{}, api.ErrBytes
		}
		expectRead(t, modelText(c), want, wantErr)
	}
}

// Every count with every number of members behind it: only the two that agree, and may be, are read.
func TestReadOfEveryCount(t *testing.T) {
	for count := range 256 {
		for n := range 256 {
			text := []byte{67, 0, 1, byte(count)}
			for id := range n {
				text = append(text, byte(id))
			}
			want, wantErr := api.Conf{}, api.ErrBytes
			if count == n && n >= 4 && n <= 10 {
				want, wantErr = api.Conf{Epoch: 1, Members: first(n)}, api.OK
			}
			expectRead(t, string(text), want, wantErr)
		}
	}
}

func TestReadOfWrongMembers(t *testing.T) {
	for _, text := range []string{
		"C\x00\x01\x04\x00\x02\x01\x03", // not rising
		"C\x00\x01\x04\x03\x02\x01\x00",
		"C\x00\x01\x04\x00\x01\x03\x02",
		"C\x00\x01\x04\x00\x00\x01\x02", // one twice
		"C\x00\x01\x04\x00\x01\x02\x02",
		"C\x00\x01\x04\x00\x01\x02\x10", // no replica
		"C\x00\x01\x04\x00\x01\x02\xff",
		"C\x00\x01\x03\x00\x01\x02", // too few
		"C\x00\x01\x00",
		"C\x00\x01\x0b\x00\x01\x02\x03\x04\x05\x06\x07\x08\x09\x0a", // too many
	} {
		expectRead(t, text, api.Conf{}, api.ErrBytes)
	}
}

// Every text that differs from a right one in one byte.
func TestReadOfEveryOtherByte(t *testing.T) {
	for _, c := range []api.Conf{
		{Epoch: 0, Members: []int{0, 2, 4, 6}},
		{Epoch: 60, Members: last(4)},
		{Epoch: 33, Members: []int{1, 2, 5, 8, 9, 12, 14}},
		{Epoch: 1, Members: first(10)},
	} {
		text := []byte(modelText(c))
		for i, old := range text {
			for b := range 256 {
				text[i] = byte(b)
				want, wantErr := modelRead(string(text))
				expectRead(t, string(text), want, wantErr)
			}
			text[i] = old
		}
	}
}

// R4: what is handed in is neither changed nor kept.

// roomy answers the n members in a list that has room behind them, and all of that room.
func roomy(n int) (members, room []int) {
	room = []int{1, 2, 3, 4, 5, 6, 7, 8, 9, 10, -7, -7, -7, -7, -7, -7}
	for i := n; i < len(room); i++ {
		room[i] = -7
	}
	return room[:n], room
}

func TestMembersStayAsTheyWere(t *testing.T) {
	for n := range most + 2 {
		for id := -1; id <= ids; id++ {
			members, room := roomy(n)
			was := slices.Clone(room)
			c := api.Conf{Epoch: 2, Members: members}
			council.Right(c)
			council.Has(c, id)
			council.Primary(c, id)
			council.Text(c)
			if !slices.Equal(room, was) {
				t.Fatalf("asked about %d: %v, once %v", id, room, was)
			}
			council.Join(members, id)
			if !slices.Equal(room, was) {
				t.Fatalf("%d joined: %v, once %v", id, room, was)
			}
			council.Leave(members, id)
			if !slices.Equal(room, was) {
				t.Fatalf("%d left: %v, once %v", id, room, was)
			}
		}
	}
}

// spoil writes over all that a list has, and over the room behind it.
func spoil(list []int) {
	list = list[:cap(list)]
	for i := range list {
		list[i] = -99
	}
}

func TestAnswersAreNewMemory(t *testing.T) {
	for name, call := range map[string]func([]int) ([]int, api.Errno){
		"Join":  func(members []int) ([]int, api.Errno) { return council.Join(members, 15) },
		"Leave": func(members []int) ([]int, api.Errno) { return council.Leave(members, members[0]) },
		"Read": func(members []int) ([]int, api.Errno) {
			c, err := council.Read(modelText(api.Conf{Members: members}))
			return c.Members, err
		},
	} {
		for n := 5; n <= 9; n++ {
			members, room := roomy(n)
			was := slices.Clone(room)
			one, err := call(members)
			if err != api.OK {
				t.Fatal(name, err)
			}
			want := slices.Clone(one)
			other, _ := call(members)
			spoil(one)
			if !slices.Equal(room, was) || !slices.Equal(other, want) {
				t.Errorf("%s of %d members: the answer is shared: %v %v", name, n, room, other)
			}
			spoil(room)
			if !slices.Equal(other, want) {
				t.Errorf("%s of %d members: the argument is kept: %v", name, n, other)
			}
		}
	}
}

// W0 and P7.1 of any bytes: as a text, and one by one as members.
func FuzzCouncil(f *testing.F) {
	f.Add("C\x00\x03\x04\x00\x03\x07\x0f", 3, 2)
	f.Add("C\x00\x3c\x0a\x00\x01\x02\x03\x04\x05\x06\x07\x08\x09", 60, 15)
	f.Add("", -1, -1)
	f.Fuzz(func(t *testing.T, text string, epoch, id int) {
		want, wantErr := modelRead(text)
		expectRead(t, text, want, wantErr)
		var members []int
		for _, b := range []byte(text) {
			members = append(members, int(int8(b)))
		}
		c := api.Conf{Epoch: epoch, Members: members}
		right := epoch >= 0 && epoch <= lastEpoch && modelRight(members)
		expectRight(t, c, right)
		expectHas(t, c, id, slices.Index(members, id) >= 0)
		if right {
			expectText(t, c, modelText(c), api.OK)
			expectRead(t, modelText(c), c, api.OK)
		} else {
			expectText(t, c, "", api.ErrArg)
		}
		if right && id >= 0 {
			expectPrimary(t, c, id, members[uint(id)%uint(len(members))], true)
		} else {
			expectPrimary(t, c, id, 0, false)
		}
		list, err := modelJoin(members, id)
		expectJoin(t, members, id, list, err)
		list, err = modelLeave(members, id)
		expectLeave(t, members, id, list, err)
		expectCounts(t, epoch, modelCounts(epoch))
	})
}
