package patience_test

import "testing"

// P17.2: how the wait rises, and where it ends.

// Behind each number of Fails, whether it runs or not: one fewer than lead to the greatest wait, as many, and many more.
func TestTheWaitByTheFails(t *testing.T) {
	for _, ahead := range [][]call{nil, {start(5)}, {start(5), stop()}, {calm()}} {
		p := pairOf(t)
		p.tell(ahead...)
		for n := range 200 {
			p.expectWait(waits()[min(n, 6)])
			p.tell(fail())
		}
		p.expectWait(512)
	}
}

// However many Fails there were, none leads past the bounds.
func TestVeryManyFails(t *testing.T) {
	p := pairOf(t)
	for range 1_000_000 {
		p.x.Fail()
		if w := p.x.Wait(); w < 16 || w > 512 {
			t.Fatal(w)
		}
	}
	p.expectWait(512)
	p.x.Calm()
	p.expectWait(8)
	p.x.Fail()
	p.expectWait(16)
}

// Calm at each wait: as at first, and it rises again as at first.
func TestCalmAtEachWait(t *testing.T) {
	for n := range 20 {
		for _, runs := range []bool{false, true} {
			p := pairOf(t)
			if runs {
				p.tell(start(5))
			}
			p.tell(fails(n)...)
			p.tell(calm())
			p.expectWait(8)
			p.tell(calm())
			p.expectWait(8)
			for _, wait := range waits()[1:] {
				p.tell(fail())
				p.expectWait(wait)
			}
			p.tell(fail())
			p.expectWait(512)
		}
	}
}

// Between two Calms nothing but a Fail changes the wait.
func TestWhatLeavesTheWait(t *testing.T) {
	for n, wait := range waits() {
		p := pairOf(t)
		p.tell(fails(n)...)
		for _, now := range numbers() {
			p.tell(start(now))
			p.expectWait(wait)
			for _, asked := range numbers() {
				p.x.Due(asked)
				p.x.Running()
			}
			p.expectWait(wait)
			p.tell(stop())
			p.expectWait(wait)
		}
	}
}
