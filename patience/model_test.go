package patience_test

import (
	"fmt"
	"math"
	"slices"
	"testing"

	"witan/patience"
)

const lastTime = 1 << 40

// waits answers the waits by how many Fails led to them, written out; behind more the last one stays.
func waits() []int { return []int{8, 16, 32, 64, 128, 256, 512} }

// numbers answers numbers that may be handed in as times: each edge, and what stands beside it.
func numbers() []int {
	list := []int{math.MinInt, math.MinInt + 1, -lastTime - 1, -lastTime, -lastTime + 1, -1 << 32, -520, -513, -512, -9, -8, -7, -1}
	list = append(list, 0, 1, 5, 7, 8, 9, 12, 13, 14, 15, 16, 17, 511, 512, 513, 1<<31-1, 1<<31, 1<<32-1, 1<<32, 1<<32+8, 1<<39)
	for _, w := range waits() {
		list = append(list, lastTime-w-1, lastTime-w, lastTime-w+1)
	}
	list = append(list, lastTime-2, lastTime-1, lastTime, lastTime+1, lastTime+7, lastTime+8, lastTime+9, lastTime+512, lastTime+513)
	return append(list, 1<<41, 1<<62, math.MaxInt-513, math.MaxInt-512, math.MaxInt-8, math.MaxInt-1, math.MaxInt)
}

// counted answers the time as which the number counts.
func counted(n int) int {
	if n < 0 {
		return 0
	}
	if n > lastTime {
		return lastTime
	}
	return n
}

// call is one of the calls that change a timer; now is Start's alone.
type call struct {
	name string
	now  int
}

func start(now int) call { return call{"Start", now} }

func stop() call { return call{name: "Stop"} }

func fail() call { return call{name: "Fail"} }

func calm() call { return call{name: "Calm"} }

func fails(n int) []call { return slices.Repeat([]call{fail()}, n) }

func (c call) do(x *patience.Timer) {
	switch c.name {
	case "Start":
		x.Start(c.now)
	case "Stop":
		x.Stop()
	case "Fail":
		x.Fail()
	case "Calm":
		x.Calm()
	}
}

// model is a timer by the chapter's words: it keeps the row of calls alone, and all that is asked is found by going through it.
type model []call

// wait answers the wait: as many Fails as there were behind the last Calm tell it.
func (m model) wait() int {
	n := 0
	for _, c := range m {
		if c.name == "Fail" {
			n++
		}
		if c.name == "Calm" {
			n = 0
		}
	}
	return waits()[min(n, len(waits())-1)]
}

// end answers the end, and if it runs: the first Start behind the last Stop tells it, with the wait that it had then.
func (m model) end() (int, bool) {
	from := 0
	for i, c := range m {
		if c.name == "Stop" {
			from = i
		}
	}
	for i, c := range m {
		if i >= from && c.name == "Start" {
			return counted(c.now) + m[:i].wait(), true
		}
	}
	return 0, false
}

func (m model) due(now int) bool {
	end, runs := m.end()
	return runs && counted(now) >= end
}

// pair is a timer and its model, which are told the same.
type pair struct {
	t *testing.T
	x *patience.Timer
	m model
}

func pairOf(t *testing.T) *pair {
	t.Helper()
	x := patience.New()
	if x == nil {
		t.Fatal("New: nil")
	}
	p := &pair{t: t, x: x}
	p.stands()
	return p
}

// tell makes the calls, and asks behind each how both stand.
func (p *pair) tell(calls ...call) {
	p.t.Helper()
	for _, c := range calls {
		was := p.x.Wait()
		c.do(p.x)
		p.m = append(p.m, c)
		p.stands()
		p.isNoLess(was, c)
	}
}

// isNoLess asks for P17.2.
func (p *pair) isNoLess(was int, c call) {
	p.t.Helper()
	got := p.x.Wait()
	if got < 8 || got > 512 {
		p.t.Fatalf("%v: the wait is %d", p.m, got)
	}
	if c.name != "Calm" && got < was {
		p.t.Fatalf("%v: the wait was %d, and is %d", p.m, was, got)
	}
}

// near answers times around the end and around those ends that other waits would have led to.
func (p *pair) near() []int {
	list := []int{math.MinInt, -1, 0, 1, lastTime - 1, lastTime, lastTime + 1, math.MaxInt}
	end, runs := p.m.end()
	if !runs {
		return list
	}
	list = append(list, end-1, end, end+1)
	for _, w := range waits() {
		list = append(list, end+w, end-w)
	}
	return list
}

// stands asks if the timer answers as the model does.
func (p *pair) stands() {
	p.t.Helper()
	if got, want := p.x.Wait(), p.m.wait(); got != want {
		p.t.Fatalf("%v: Wait: %d, not %d", p.m, got, want)
	}
	if _, want := p.m.end(); p.x.Running() != want {
		p.t.Fatalf("%v: Running: %v, not %v", p.m, !want, want)
	}
	for _, now := range p.near() {
		if got, want := p.x.Due(now), p.m.due(now); got != want {
			p.t.Fatalf("%v: Due(%d): %v, not %v", p.m, now, got, want)
		}
	}
}

// expectEnd asks for an end that is written out: it runs, isn't due one tick ahead, is due then, and from then on.
func (p *pair) expectEnd(end int) {
	p.t.Helper()
	if !p.x.Running() {
		p.t.Errorf("%v: it doesn't run", p.m)
	}
	for now, want := range map[int]bool{math.MinInt: false, 0: false, end - 1: false, end: true, end + 1: true, math.MaxInt: true} {
		if p.x.Due(now) != want {
			p.t.Errorf("%v: Due(%d): %v", p.m, now, !want)
		}
	}
}

// expectNever asks if it is due at no time.
func (p *pair) expectNever() {
	p.t.Helper()
	for _, now := range numbers() {
		if p.x.Due(now) {
			p.t.Errorf("%v: due at %d", p.m, now)
		}
	}
}

func (p *pair) expectStopped() {
	p.t.Helper()
	if p.x.Running() {
		p.t.Errorf("%v: it runs", p.m)
	}
	p.expectNever()
}

func (p *pair) expectWait(want int) {
	p.t.Helper()
	if got := p.x.Wait(); got != want {
		p.t.Errorf("%v: Wait: %d, not %d", p.m, got, want)
	}
}

func (c call) String() string {
	if c.name == "Start" {
		return fmt.Sprintf("Start(%d)", c.now)
	}
	return c.name
}
