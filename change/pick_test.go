package change_test

import (
	"fmt"
	"math"
	"slices"
	"testing"

	"witan/api"
	"witan/change"
)

// P16.1: what is proposed again.

// The chapter's examples.
func TestExamples(t *testing.T) {
	c := conf(0, 0, 1, 2, 3)
	for _, by := range [][]int{{0, 1, 2}, {0, 1, 3}, {0, 2, 3}, {1, 2, 3}, {0, 1, 2, 3}} {
		expectPick(t, "none", c, 1, plain(0, 1, by...))
		for at, id := range by {
			l := plain(0, 1, by...)
			l[at] = changeOf(0, id, 1, certOf(0, 0, 3, get("k"), 0, 1, 2))
			expectPick(t, "the third", c, 1, l, null(), null(), get("k"))
		}
	}
}

// Without a certificate nothing is proposed again, in whatever view.
func TestPickWithoutCertificates(t *testing.T) {
	for _, c := range someConfs() {
		for view := 1; view <= lastView; view++ {
			expectPick(t, "all", c, view, plain(c.Epoch, view, c.Members...))
			expectPick(t, "a quorum", c, view, plain(c.Epoch, view, quorumOf(c.Members)...))
		}
	}
}

// One change has certificates of each set of slots: up to the last one of them it is proposed again, with null requests between.
func TestPickOfEachSetOfSlots(t *testing.T) {
	for _, c := range someConfs() {
		q := quorumOf(c.Members)
		for set := range 1 << interval {
			for at, id := range q {
				var want, row []api.Request
				var certs []api.Cert
				for i, slot := range slotsOf(c.Epoch) {
					row = append(row, null())
					if set>>i&1 == 1 {
						row[i] = unlike()[1+6*i+at]
						certs = append(certs, certOf(c.Epoch, i, slot, row[i], q...))
						want = slices.Clone(row)
					}
				}
				l := plain(c.Epoch, 9, q...)
				l[at] = changeOf(c.Epoch, id, 9, certs...)
				expectPick(t, fmt.Sprint(set), c, 9, l, want...)
			}
		}
	}
}

// A slot for each of four changes: all are proposed again, wherever they stand in the list.
func TestPickOfSlotsOfUnlikeChanges(t *testing.T) {
	c := conf(60, 2, 4, 6, 8)
	for turn := range interval {
		var l []api.Change
		want := make([]api.Request, interval)
		for i, id := range c.Members {
			k := (i + turn) % interval
			want[k] = unlike()[3*k+1]
			l = append(l, changeOf(60, id, 15, certOf(60, 14-i, 241+k, want[k], 2, 6, 8)))
		}
		expectPick(t, fmt.Sprint(turn), c, 15, l, want...)
	}
}

// Certificates of unlike views in one slot, in each order: the greatest view's request is picked.
func TestPickOfUnlikeViews(t *testing.T) {
	c := conf(0, 0, 1, 2, 3)
	views := []int{0, 1, 7, 13, 14}
	for _, slot := range slotsOf(0) {
		for row := range 625 {
			var l []api.Change
			greatest := 0
			for i, n := 0, row; i < 4; i, n = i+1, n/5 {
				view := views[n%5]
				greatest = max(greatest, view)
				l = append(l, changeOf(0, i, 15, certOf(0, view, slot, join(view), 0, 1, 2)))
			}
			want := append(make([]api.Request, slot-1), join(greatest))
			expectPick(t, fmt.Sprint(row), c, 15, l, want...)
		}
	}
}

// Of certificates of the same view the first change's counts, whatever their requests, also where one of a lesser view stands ahead of them.
func TestPickOfTheSameView(t *testing.T) {
	c := conf(0, 0, 1, 2, 3)
	for view := range lastView {
		var l []api.Change
		for id := range 4 {
			l = append(l, changeOf(0, id, 15, certOf(0, view, 2, join(id), 0, 1, 2)))
		}
		expectPick(t, "all", c, 15, l, null(), join(0))
		expectPick(t, "from the second on", c, 15, l[1:], null(), join(1))
		expectPick(t, "the first has none", c, 15, append(plain(0, 15, 0), l[1:]...), null(), join(1))
		if view > 0 {
			expectPick(t, "the first has a lesser one", c, 15, append([]api.Change{changeOf(0, 0, 15, certOf(0, view-1, 2, join(9), 0, 1, 2))}, l[1:]...), null(), join(1))
		}
		last := slices.Clone(l)
		last[3] = changeOf(0, 3, 15, certOf(0, view, 2, join(9), 0, 1, 3), certOf(0, view, 3, join(8), 0, 1, 3))
		expectPick(t, "the last has one of its own", c, 15, last, null(), join(0), join(8))
	}
}

// How great a view is hangs on the slot alone: in each slot another change may be the one that counts.
func TestPickSlotBySlot(t *testing.T) {
	c := conf(1, 0, 1, 2, 3, 4)
	var l []api.Change
	for i, id := range []int{0, 1, 3, 4} {
		var certs []api.Cert
		for k, slot := range slotsOf(1) {
			certs = append(certs, certOf(1, 5+(i+k)%4, slot, join(4*i+k), 0, 1, 2, 3))
		}
		l = append(l, changeOf(1, id, 9, certs...))
	}
	expectPick(t, "slot by slot", c, 9, l, join(12), join(9), join(6), join(3))
}

// The null request may be what was prepared: it is no slot without a certificate.
func TestPickOfNullRequests(t *testing.T) {
	c := conf(0, 0, 1, 2, 3)
	l := plain(0, 3, 0, 1, 2)
	l[1] = changeOf(0, 1, 3, certOf(0, 1, 2, null(), 0, 1, 2))
	expectPick(t, "null alone", c, 3, l, null(), null())
	l[0] = changeOf(0, 0, 3, certOf(0, 0, 2, get("k"), 0, 1, 2))
	expectPick(t, "null of a greater view", c, 3, l, null(), null())
	l[0] = changeOf(0, 0, 3, certOf(0, 2, 2, get("k"), 0, 1, 2))
	expectPick(t, "null of a lesser view", c, 3, l, null(), get("k"))
	l[2] = changeOf(0, 2, 3, certOf(0, 0, 4, null(), 0, 1, 2))
	expectPick(t, "null at the end", c, 3, l, null(), get("k"), null(), null())
}

// Whatever is picked is the request as it was prepared; its real has its bits.
func TestPickOfEachRequest(t *testing.T) {
	c := conf(0, 0, 1, 2, 3)
	for _, r := range unlike() {
		l := plain(0, 3, 0, 1, 2)
		l[2] = changeOf(0, 2, 3, certOf(0, 1, 1, r, 0, 1, 2))
		expectPick(t, "request", c, 3, l, r)
	}
	for _, x := range nans() {
		l := plain(0, 3, 0, 1, 2)
		l[0] = changeOf(0, 0, 3, certOf(0, 1, 1, put("k", x), 0, 1, 2))
		expectPick(t, "NaN", c, 3, l, put("k", math.Float64frombits(oneNaN)))
		for _, y := range nans() {
			l[1] = changeOf(0, 1, 3, certOf(0, 1, 1, put("k", y), 0, 1, 3))
			expectPick(t, "NaNs", c, 3, l, put("k", math.Float64frombits(oneNaN)))
		}
	}
}

// Of each number of members each set of them changes: a quorum is enough, and no fewer.
func TestPickOfEachSetOfMembers(t *testing.T) {
	for n := least; n <= most; n++ {
		c := conf(2, spread(n)...)
		var all []api.Change
		for i, id := range c.Members {
			all = append(all, changeOf(2, id, 12, certOf(2, i, 9+i%4, join(i), quorumOf(c.Members)...)))
		}
		for set := range 1 << n {
			in, _ := chosen(all, set)
			got, e := askPick(t, c, 12, in)
			if (e == api.OK) != (len(in) >= quorums()[n]) || e != api.OK && e != api.ErrQuorum || e != api.OK && len(got) > 0 {
				t.Errorf("%d of %d: %d", len(in), n, e)
			}
		}
	}
}

func TestPickOfWrongConfigurations(t *testing.T) {
	for name, c := range wrongConfs() {
		for _, l := range [][]api.Change{nil, {}, plain(c.Epoch, 1, 0, 1, 2, 3), plain(0, 1, 0, 1, 2), plain(0, 2, 3, 2, 1), {{}}} {
			for _, view := range []int{1, 0, 16, math.MinInt} {
				expectNoPick(t, name, c, view, l, api.ErrArg)
			}
		}
	}
}

func TestPickOfNoView(t *testing.T) {
	c := conf(0, 0, 1, 2, 3)
	for _, view := range []int{-1, 0, 16, 17, 256, 257, 1<<32 + 1, math.MinInt, math.MaxInt} {
		for _, l := range [][]api.Change{nil, plain(0, view, 0, 1, 2), plain(0, 1, 0, 1, 2), {{}}} {
			expectNoPick(t, "view", c, view, l, api.ErrView)
		}
	}
}

func TestPickOfOtherViews(t *testing.T) {
	c := conf(0, 0, 1, 2, 3)
	for view := 1; view <= lastView; view++ {
		for other := 1; other <= lastView; other++ {
			for at := range 4 {
				l := plain(0, view, 0, 1, 2, 3)
				l[at] = changeOf(0, at, other, certOf(0, 0, 1, get("k"), 0, 1, 2))
				if view != other {
					expectNoPick(t, "another view", c, view, l, api.ErrView)
				} else {
					expectPick(t, "the view", c, view, l, get("k"))
				}
			}
		}
	}
}

// A list that is too short, and none at all.
func TestPickOfTooFew(t *testing.T) {
	for _, c := range someConfs() {
		for n := range quorums()[len(c.Members)] {
			expectNoPick(t, "too few", c, 4, plain(c.Epoch, 4, c.Members[:n]...), api.ErrQuorum)
			expectNoPick(t, "too few", c, 4, plain(c.Epoch, 4, c.Members[len(c.Members)-n:]...), api.ErrQuorum)
		}
		expectNoPick(t, "none", c, 4, nil, api.ErrQuorum)
	}
}

// Nobody counts twice, and the members rise.
func TestPickOfThoseWhoDontRise(t *testing.T) {
	c := conf(0, 0, 3, 7, 15)
	for _, by := range [][]int{
		{15, 7, 3, 0}, {7, 3, 0}, {0, 7, 3}, {3, 0, 7, 15}, {0, 3, 15, 7}, {0, 15, 3},
		{0, 0, 3, 7}, {0, 3, 3, 7}, {0, 3, 7, 7}, {0, 3, 3}, {0, 0}, {3, 0}, {0, 0, 0}, {0, 3, 7, 15, 0}, {0, 3, 7, 0}, {0, 3, 7, 15, 15}, {0, 3, 7, 15, 0, 3, 7, 15},
	} {
		expectNoPick(t, fmt.Sprint(by), c, 2, plain(0, 2, by...), api.ErrOld)
	}
	expectNoPick(t, "very many", c, 2, slices.Repeat(plain(0, 2, 0, 3, 7, 15), 10000), api.ErrOld)
	twice := append(plain(0, 2, 0, 3), changeOf(0, 3, 2, certOf(0, 0, 1, get("k"), 0, 3, 7)))
	expectNoPick(t, "two unlike ones of one", c, 2, twice, api.ErrOld)
}

// wrongChanges answers changes of the member 7, of the view 4, that aren't right in the configuration 1 of 0, 3, 7, 15, with what is told of them.
func wrongChanges() map[api.Errno]api.Change {
	cert := certOf(1, 2, 6, get("k"), 0, 3, 7)
	return map[api.Errno]api.Change{
		api.ErrArg:    changeOf(1, 7, 4, cert, cert),
		api.ErrLong:   func() api.Change { x := long(1, 4, 3, 70000); x.From, x.View = 7, 4; return x }(),
		api.ErrAbsent: changeOf(1, 8, 4, cert),
		api.ErrView:   changeOf(1, 7, 4, certOf(1, 4, 6, get("k"), 0, 3, 7)),
		api.ErrQuorum: changeOf(1, 7, 4, certOf(1, 3, 6, get("k"), 0, 3)),
		api.ErrSig:    {From: 7, View: 4, Certs: []api.Cert{cert}, Sig: api.Sig{By: 3, Text: bytesOf(1, api.Change{From: 7, View: 4, Certs: []api.Cert{cert}})}},
	}
}

// A change that isn't right is refused wherever it stands, and of several the first one is told.
func TestPickOfWrongChanges(t *testing.T) {
	c := conf(1, 0, 3, 7, 15)
	for e, x := range wrongChanges() {
		for _, l := range [][]api.Change{
			{x}, append(plain(1, 4, 0, 3), x), append(append(plain(1, 4, 0, 3), x), plain(1, 4, 15)...),
			append([]api.Change{x}, plain(1, 4, 3, 0)...), append(plain(1, 4, 15, 3, 3, 0), x), append(plain(1, 4, 0, 3, 7, 15), x),
		} {
			expectNoPick(t, "one", c, 4, l, e)
		}
		for f, y := range wrongChanges() {
			expectNoPick(t, "two", c, 4, append(append(plain(1, 4, 0, 3), x), y), e)
			expectNoPick(t, "two", c, 4, append(append(append(plain(1, 4, 0), y), plain(1, 4, 3)...), x), f)
		}
	}
}

// Which error is told where more than one would fit: each list is wrong in the way named, and in all ways named behind it.
func TestPickTellsTheFirstError(t *testing.T) {
	c := conf(1, 0, 3, 7, 15)
	expectNoPick(t, "a wrong configuration, another view", conf(1, 0, 3, 7), 5, plain(1, 4, 7, 3), api.ErrArg)
	for _, x := range wrongChanges() {
		expectNoPick(t, "another view, a wrong change", c, 5, []api.Change{x}, api.ErrView)
		other := x
		other.View = 5
		expectNoPick(t, "a wrong change, another view behind it", c, 4, []api.Change{x, other}, api.ErrView)
		expectNoPick(t, "a wrong change, another view ahead of it", c, 4, []api.Change{changeOf(1, 15, 3), x}, api.ErrView)
		expectNoPick(t, "no view, a wrong change", c, 0, []api.Change{x}, api.ErrView)
	}
	expectNoPick(t, "another view, not rising", c, 4, append(plain(1, 4, 7, 3), changeOf(1, 0, 3)), api.ErrView)
	expectNoPick(t, "another view, too few", c, 5, plain(1, 4, 3), api.ErrView)
	for e, x := range wrongChanges() {
		expectNoPick(t, "a wrong change, not rising, too few", c, 4, []api.Change{changeOf(1, 15, 4), x}, e)
	}
	expectNoPick(t, "not rising, too few", c, 4, plain(1, 4, 7, 3), api.ErrOld)
	expectNoPick(t, "not rising, too few", c, 4, plain(1, 4, 3, 3), api.ErrOld)
	expectNoPick(t, "too few", c, 4, plain(1, 4, 3, 7), api.ErrQuorum)
}

// R2: beside an error nothing is picked, whatever certificates there are.
func TestPickBesideAnError(t *testing.T) {
	c := conf(0, 0, 1, 2, 3)
	good := changeOf(0, 0, 2, certOf(0, 1, 4, get("k"), 0, 1, 2))
	for _, l := range [][]api.Change{{good}, {good, good, good}, append([]api.Change{good}, api.Change{From: 1, View: 2})} {
		if got, e := change.Pick(c, 2, l); e == api.OK || len(got) != 0 {
			t.Error(got, e)
		}
	}
}
