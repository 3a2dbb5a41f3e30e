package patience_test

import (
	"math"
	"testing"

	"witan/api"
	"witan/patience"
)

// P17.1: what each call answers.

// The chapter's examples.
func TestExamples(t *testing.T) {
	p := pairOf(t)
	p.tell(start(5))
	p.expectEnd(13)

	p = pairOf(t)
	p.tell(fails(3)...)
	p.expectWait(64)
	p.tell(fails(4)...)
	p.expectWait(512)
	for range 20 {
		p.tell(fail())
		p.expectWait(512)
	}
}

func TestAtFirst(t *testing.T) {
	p := pairOf(t)
	p.expectStopped()
	p.expectWait(8)
}

// The limits of api are the ones that the tests write out.
func TestLimits(t *testing.T) {
	if api.Patience != waits()[0] || api.MaxWait != waits()[len(waits())-1] {
		t.Error(api.Patience, api.MaxWait)
	}
}

// The end, written out: by the number at which it is started, and how many Fails were ahead.
func TestEnds(t *testing.T) {
	for _, c := range []struct{ now, fails, end int }{
		{5, 0, 13},
		{0, 0, 8},
		{1, 0, 9},
		{-1, 0, 8},
		{-7, 1, 16},
		{-8, 0, 8},
		{math.MinInt, 0, 8},
		{math.MinInt, 6, 512},
		{-lastTime, 2, 32},
		{0, 3, 64},
		{100, 4, 228},
		{100, 5, 356},
		{100, 6, 612},
		{100, 7, 612},
		{100, 70, 612},
		{1<<32 - 1, 0, 1<<32 + 7},
		{1 << 39, 1, 1<<39 + 16},
		{lastTime - 9, 0, lastTime - 1},
		{lastTime - 8, 0, lastTime},
		{lastTime - 16, 1, lastTime},
		{lastTime - 512, 6, lastTime},
		{lastTime - 512, 9, lastTime},
	} {
		p := pairOf(t)
		p.tell(fails(c.fails)...)
		p.tell(start(c.now))
		p.expectEnd(c.end)
	}
}

// An end beyond the last time is never reached, whatever is asked.
func TestEndsBeyondTheLastTime(t *testing.T) {
	for _, c := range []struct{ now, fails int }{
		{lastTime - 7, 0},
		{lastTime - 1, 0},
		{lastTime, 0},
		{lastTime + 1, 0},
		{lastTime + 8, 0},
		{math.MaxInt - 8, 0},
		{math.MaxInt, 0},
		{lastTime - 15, 1},
		{lastTime - 511, 6},
		{lastTime, 6},
		{math.MaxInt - 511, 6},
		{math.MaxInt, 6},
	} {
		p := pairOf(t)
		p.tell(fails(c.fails)...)
		p.tell(start(c.now))
		if !p.x.Running() {
			t.Errorf("%v: it doesn't run", p.m)
		}
		p.expectNever()
		p.tell(stop(), calm(), start(3))
		p.expectEnd(11)
	}
}

// Each number where it is started, and each where it is asked, at each wait.
func TestAllNumbers(t *testing.T) {
	for _, from := range numbers() {
		for n, wait := range waits() {
			p := pairOf(t)
			p.tell(fails(n)...)
			p.tell(start(from))
			for _, now := range numbers() {
				if got, want := p.x.Due(now), counted(now) >= counted(from)+wait; got != want {
					t.Errorf("Start(%d), Due(%d) with the wait %d: %v", from, now, wait, got)
				}
			}
			p.stands()
		}
	}
}

// One that never ran and one that was stopped are due at no number.
func TestAllNumbersOfOneThatDoesntRun(t *testing.T) {
	for _, from := range numbers() {
		p := pairOf(t)
		p.expectStopped()
		p.tell(start(from), stop())
		p.expectStopped()
	}
}

// Behind the end it stays due, and runs on; an earlier time may be asked behind a later one.
func TestDueAskedInAnyOrder(t *testing.T) {
	p := pairOf(t)
	p.tell(start(100))
	for range 3 {
		for now := 120; now > 80; now-- {
			if p.x.Due(now) != (now >= 108) {
				t.Errorf("Due(%d)", now)
			}
		}
		for now := 80; now < 120; now++ {
			if p.x.Due(now) != (now >= 108) {
				t.Errorf("Due(%d)", now)
			}
		}
	}
	p.expectEnd(108)
	p.expectWait(8)
}

// A Start of one that runs changes nothing: neither an earlier nor a later one, nor with another wait, nor when it is due.
func TestStartOfOneThatRuns(t *testing.T) {
	for _, again := range numbers() {
		p := pairOf(t)
		p.tell(start(5), start(again))
		p.expectEnd(13)
		p.tell(fail(), start(again))
		p.expectEnd(13)
		p.expectWait(16)
		p.tell(calm(), start(again), start(again))
		p.expectEnd(13)
		p.expectWait(8)
		p.tell(stop(), start(6))
		p.expectEnd(14)
	}
}

// One that is due runs still: it is started anew behind a Stop alone.
func TestStartOfOneThatIsDue(t *testing.T) {
	p := pairOf(t)
	p.tell(start(0))
	if !p.x.Due(8) {
		t.Fatal("not due")
	}
	p.tell(start(8))
	p.expectEnd(8)
	p.tell(stop(), start(8))
	p.expectEnd(16)
}

func TestStartBehindAStop(t *testing.T) {
	p := pairOf(t)
	p.tell(stop(), start(20))
	p.expectEnd(28)
	p.tell(stop())
	p.expectStopped()
	p.tell(stop(), start(3))
	p.expectEnd(11)
	p.tell(stop(), start(0))
	p.expectEnd(8)
	p.tell(start(40))
	p.expectEnd(8)
}

func TestStartBehindAFail(t *testing.T) {
	p := pairOf(t)
	p.tell(fail())
	p.expectStopped()
	p.tell(start(20))
	p.expectEnd(36)
	p.tell(fail(), stop(), start(20))
	p.expectEnd(52)
	p.tell(stop(), fail(), start(20))
	p.expectEnd(84)
}

func TestStartBehindACalm(t *testing.T) {
	p := pairOf(t)
	p.tell(calm())
	p.expectStopped()
	p.expectWait(8)
	p.tell(start(20))
	p.expectEnd(28)
	p.tell(fail(), fail(), stop(), calm(), start(20))
	p.expectEnd(28)
	p.tell(fail(), calm(), stop(), start(21))
	p.expectEnd(29)
}

// The end of one that runs stays when its wait changes; the next start has the new wait.
func TestTheEndStays(t *testing.T) {
	for n, wait := range waits() {
		p := pairOf(t)
		p.tell(fails(n)...)
		p.tell(start(1000))
		for range 8 {
			p.tell(fail())
			p.expectEnd(1000 + wait)
		}
		p.expectWait(512)
		p.tell(calm())
		p.expectEnd(1000 + wait)
		p.expectWait(8)
		p.tell(fail())
		p.expectEnd(1000 + wait)
		p.expectWait(16)
		p.tell(stop(), start(1000))
		p.expectEnd(1016)
	}
}

// Stop leaves the wait.
func TestStopLeavesTheWait(t *testing.T) {
	for n, wait := range waits() {
		p := pairOf(t)
		p.tell(fails(n)...)
		p.tell(stop())
		p.expectWait(wait)
		p.tell(start(7), stop(), stop())
		p.expectWait(wait)
		p.expectStopped()
	}
}

// Nil: nothing changes, and false, false, 0 are answered.
func TestNil(t *testing.T) {
	var x *patience.Timer
	asked := func() {
		t.Helper()
		for _, now := range numbers() {
			if x.Due(now) {
				t.Errorf("Due(%d) of nil", now)
			}
		}
		if x.Running() || x.Wait() != 0 {
			t.Error("of nil:", x.Running(), x.Wait())
		}
	}
	asked()
	for _, now := range numbers() {
		x.Start(now)
		asked()
	}
	for _, c := range []call{stop(), fail(), calm(), start(5), fail(), stop(), calm()} {
		c.do(x)
		asked()
	}
}

// A timer that isn't made by New is as one that is.
func TestTheZeroTimer(t *testing.T) {
	p := &pair{t: t, x: &patience.Timer{}}
	p.stands()
	p.expectStopped()
	p.expectWait(8)
	p.tell(start(5), fail(), stop(), start(5), calm())
	p.expectEnd(21)
	p.expectWait(8)
}

// Two timers are apart, whatever is done to either.
func TestTimersAreApart(t *testing.T) {
	one, two := pairOf(t), pairOf(t)
	if one.x == two.x {
		t.Fatal("one timer")
	}
	for _, c := range []call{start(5), fail(), fail(), stop(), start(9), calm(), fail(), stop()} {
		one.tell(c)
		two.stands()
	}
	two.expectStopped()
	two.expectWait(8)
	for _, c := range []call{start(50), fail(), start(1), stop(), fail(), fail(), start(70)} {
		two.tell(c)
		one.stands()
	}
	two.expectEnd(134)
	one.expectStopped()
	one.tell(start(3))
	one.expectEnd(19)
	two.expectEnd(134)
}
