package patience_test

import (
	"math/rand"
	"testing"
)

// P17.1, P17.2: rows of calls, held against the model step by step.

// Each row of five calls, of each kind and with starts at unlike times.
func TestAllShortRows(t *testing.T) {
	kinds := []call{start(0), start(5), start(lastTime - 16), stop(), fail(), calm()}
	count := 1
	for range 5 {
		count *= len(kinds)
	}
	for row := range count {
		p := pairOf(t)
		for left := row; len(p.m) < 5; left /= len(kinds) {
			p.tell(kinds[left%len(kinds)])
		}
	}
}

// chance rolls calls.
type chance struct{ *rand.Rand }

func (c chance) now() int {
	if c.Intn(4) == 0 {
		list := numbers()
		return list[c.Intn(len(list))]
	}
	return c.Intn(1200) - 100
}

// call answers Calms seldom, so that the greatest waits come up.
func (c chance) call() call {
	switch c.Intn(16) {
	case 0:
		return calm()
	case 1, 2, 3, 4, 5:
		return fail()
	case 6, 7, 8, 9:
		return stop()
	}
	return start(c.now())
}

func TestRowsByChance(t *testing.T) {
	greatest, running, stopped := 0, 0, 0
	for seed := range int64(100) {
		c := chance{rand.New(rand.NewSource(seed))}
		p := pairOf(t)
		for range 60 {
			p.tell(c.call())
			for range 5 {
				now := c.now()
				if got := p.x.Due(now); got != p.m.due(now) {
					t.Fatalf("%v: Due(%d): %v", p.m, now, got)
				}
			}
			if p.x.Wait() == 512 {
				greatest++
			}
			if p.x.Running() {
				running++
			} else {
				stopped++
			}
		}
	}
	if greatest < 500 || running < 1000 || stopped < 1000 {
		t.Error("too few with the greatest wait, too few that run, too few that don't:", greatest, running, stopped)
	}
}

// R6: behind the same calls two timers answer the same, whatever was asked of either between.
func TestTheSameRowTwice(t *testing.T) {
	for seed := range int64(50) {
		one, two := pairOf(t), pairOf(t)
		c := chance{rand.New(rand.NewSource(seed))}
		for range 60 {
			next := c.call()
			one.tell(next)
			next.do(two.x)
			two.m = append(two.m, next)
		}
		two.stands()
		one.x, two.x = two.x, one.x
		one.stands()
		two.stands()
	}
}
