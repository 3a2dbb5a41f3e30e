package saga_test

import (
	"math"
	"testing"

	"witan/api"
)

// P22.1, Sound: no configuration may have more bad members than its faults.

func (p *pair) expectIsSound(want bool, lists ...[]int) {
	p.t.Helper()
	for _, bad := range lists {
		if got := p.s.Sound(bad); got != want {
			p.t.Errorf("%v: with %v bad it is sound: %t", p.m, bad, got)
		}
		p.expectSound(bad)
	}
}

// Up to the faults and one more, of as many members as there may be.
func TestSoundAtTheFaults(t *testing.T) {
	for n := 4; n <= 10; n++ {
		for _, log := range [][]api.Request{nil, nulls(3), nulls(4), nulls(40), nulls(244)} {
			p := pairOf(t, firstOf(n), log)
			faults := faultsOf(n)
			p.expectIsSound(true, nil, []int{}, firstOf(faults), firstOf(n)[n-faults:], []int{n, n + 1, 15, 16})
			p.expectIsSound(false, firstOf(faults+1), firstOf(n)[n-faults-1:], firstOf(n), firstOf(16))
		}
	}
}

// Members count, not how often a bad one is named; who is no member counts nothing, be it a client or no node at all.
func TestSoundCountsMembers(t *testing.T) {
	p := pairOf(t, []int{0, 2, 4, 6}, nulls(8))
	p.expectIsSound(true, []int{2, 2, 2, 2}, []int{1, 3, 5, 7, 9}, []int{101, 102, 108, 6}, []int{-1, math.MinInt, math.MaxInt, 16, 0, -4})
	p.expectIsSound(false, []int{2, 2, 6, 2}, []int{1, 0, 3, 2}, []int{101, 6, 102, 4})
}

// Bad members of some epochs: from the one on in which they are too many, whatever comes behind it.
func TestSoundInEachEpoch(t *testing.T) {
	log := rising(1,
		join(4), join(5), leave(0), leave(1), // 2, 3, 4, 5
		join(0), join(1), leave(2), leave(3), // 0, 1, 4, 5
		join(6), join(7), join(8), put("k", 1), // 0, 1, 4, 5, 6, 7, 8
	)
	want := [][]int{{0, 1, 2, 3}, {2, 3, 4, 5}, {0, 1, 4, 5}, {0, 1, 4, 5, 6, 7, 8}}
	for n := range len(log) + 1 {
		p := pairOf(t, firstOf(4), log[:n])
		for a := range 10 {
			for b := range a {
				isSound := true
				for _, members := range want[:n/interval+1] {
					count := 0
					for _, id := range members {
						if id == a || id == b {
							count++
						}
					}
					isSound = isSound && count <= faultsOf(len(members))
				}
				p.expectIsSound(isSound, []int{a, b}, []int{b, a, a}, []int{101, b, 9, a})
			}
		}
		p.expectIsSound(true, []int{9, 101})
	}
	p := pairOf(t, firstOf(4), log)
	p.expectIsSound(true, []int{6, 7}, []int{0, 6}, []int{2, 8})
	p.expectIsSound(false, []int{0, 1}, []int{0, 2}, []int{2, 3}, []int{4, 5}, []int{0, 6, 7})
}

// Two join who are bad both: it is sound up to the slot ahead of the epoch in which they are members.
func TestSoundUpToTheEpoch(t *testing.T) {
	log := append(rising(1, join(4), leave(0), put("k", 1), put("k", 2)), nulls(240)...)
	for n := range len(log) + 1 {
		pairOf(t, firstOf(4), log[:n]).expectIsSound(n < interval, []int{1, 4}, []int{4, 2, 101})
	}
}

// The last epochs count, the last of all too: it begins behind 240 requests, and none behind 244.
func TestSoundInTheLastEpochs(t *testing.T) {
	log := nulls(244)
	log[236], log[237] = request(1, 1, join(4)), request(1, 2, leave(0))
	for n := 230; n <= 244; n++ {
		pairOf(t, firstOf(4), log[:n]).expectIsSound(n < 240, []int{1, 4})
	}
	log = nulls(244)
	log[240], log[241] = request(1, 1, join(4)), request(1, 2, leave(0))
	for n := 240; n <= 244; n++ {
		pairOf(t, firstOf(4), log[:n]).expectIsSound(true, []int{1, 4})
	}
}
