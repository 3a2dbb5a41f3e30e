package saga_test

import (
	"math"
	"math/rand"
	"testing"

	"witan/api"
)

// P22.1, Outcome: where each request took effect, and what it came to there.

func (p *pair) expectTook(q api.Request, slot int, want api.Result) {
	p.t.Helper()
	n, x, ok := p.s.Outcome(q)
	if n != slot || tell(x) != tell(want) || !ok {
		p.t.Errorf("%v took effect in %d, %v, %t; asked %d, %v", q, n, x, ok, slot, want)
	}
	p.expectOutcome(q)
}

func (p *pair) expectNoEffect(list ...api.Request) {
	p.t.Helper()
	for _, q := range list {
		if n, x, ok := p.s.Outcome(q); n != 0 || tell(x) != tell(api.Result{}) || ok {
			p.t.Errorf("%v took effect in %d, %v, %t; asked none", q, n, x, ok)
		}
		p.expectOutcome(q)
	}
}

func code(n int) api.Result { return api.Result{Code: n} }

func told(x float64) api.Result { return api.Result{Real: x} }

// What each operation comes to, through two epochs.
func TestOutcomeOfEachOperation(t *testing.T) {
	steps := []struct {
		op   api.Op
		want api.Result
	}{
		{put("k", 2), told(2)},
		{add("k", 0.5), told(2.5)},
		{api.Op{Kind: api.OpMax, Key: "k", Real: 7}, told(7)},
		{leave(0), code(api.CodeFew)},
		{get("k"), told(7)},
		{join(4), code(api.CodeOK)},
		{join(4), code(api.CodeSame)},
		{leave(9), code(api.CodeAbsent)},
		{api.Op{Kind: api.OpCut, Key: "k"}, told(7)},
		{get("k"), code(api.CodeNone)},
		{add("k", 1), code(api.CodeNone)},
		{leave(0), code(api.CodeOK)},
	}
	var log []api.Request
	for i, step := range steps {
		log = append(log, request(5, 10*(i+1), step.op))
	}
	p := pairOf(t, firstOf(4), log)
	for i, step := range steps {
		p.expectTook(log[i], i+1, step.want)
	}
	p.expectAll()
}

// Where there is no room: a key more than 16, a member more than 10.
func TestOutcomeWhereThereIsNoRoom(t *testing.T) {
	var log []api.Request
	for i := range maxKeys + 1 {
		log = append(log, request(1, i+1, put(string(rune('a'+i)), 1)))
	}
	p := pairOf(t, firstOf(4), log)
	for i, q := range log[:maxKeys] {
		p.expectTook(q, i+1, told(1))
	}
	p.expectTook(log[maxKeys], maxKeys+1, code(api.CodeFull))
	p.expectAll()

	p = pairOf(t, firstOf(9), rising(1, join(9), join(10)))
	p.expectTook(p.m.log[0], 1, code(api.CodeOK))
	p.expectTook(p.m.log[1], 2, code(api.CodeMany))
}

// A request that comes again took effect where it came first, whatever would come of it later, and also across epochs.
func TestOutcomeOfWhatComesAgain(t *testing.T) {
	one, two, three := request(1, 1, put("k", 1)), request(2, 1, put("k", 2)), request(3, 7, get("k"))
	p := pairOf(t, firstOf(4), []api.Request{three, one, three, two, three, one, null(), two, two, three})
	p.expectTook(three, 1, code(api.CodeNone))
	p.expectTook(one, 2, told(1))
	p.expectTook(two, 4, told(2))
	p.expectAll()
}

// A stamp that isn't above its client's last takes no effect: not one below it, nor that one with another operation. Other clients' stamps are nothing to it.
func TestOutcomeOfStampsThatDontRise(t *testing.T) {
	log := []api.Request{
		request(1, 5, put("k", 1)),
		request(1, 4, put("k", 2)),
		request(1, 5, put("k", 3)),
		request(2, 4, put("k", 4)),
		request(1, 6, put("k", 5)),
		request(1, 5, put("k", 3)),
		request(2, 3, put("k", 6)),
		request(1, 4, put("k", 2)),
		request(2, 5, put("k", 7)),
	}
	p := pairOf(t, firstOf(4), log)
	p.expectTook(log[0], 1, told(1))
	p.expectTook(log[3], 4, told(4))
	p.expectTook(log[4], 5, told(5))
	p.expectTook(log[8], 9, told(7))
	p.expectNoEffect(log[1], log[2], log[6])
	p.expectAll()
}

// A request that changes nothing takes effect, too, where its stamp rises.
func TestOutcomeOfWhatChangesNothing(t *testing.T) {
	log := rising(4, get("k"), leave(3), join(3), get("k"))
	p := pairOf(t, firstOf(4), log)
	p.expectTook(log[0], 1, code(api.CodeNone))
	p.expectTook(log[1], 2, code(api.CodeFew))
	p.expectTook(log[2], 3, code(api.CodeSame))
	p.expectTook(log[3], 4, code(api.CodeNone))
}

// The null request takes no effect wherever it is, nor what is neither right nor null, nor what isn't there.
func TestOutcomeOfWhatIsNotThere(t *testing.T) {
	for _, log := range [][]api.Request{nil, nulls(1), nulls(9), {request(1, 2, put("k", 1)), null(), null()}} {
		p := pairOf(t, firstOf(4), log)
		p.expectNoEffect(null())
		p.expectNoEffect(wrongRequests()...)
		p.expectNoEffect(request(1, 1, put("k", 1)), request(1, 3, put("k", 1)), request(2, 2, put("k", 1)), request(1, 2, put("k", 2)), request(1, 2, add("k", 1)), request(1, 2, put("kk", 1)), request(1, 2, join(1)))
		p.expectAll()
	}
}

// Reals count by their bits: all NaNs are one, and the two noughts are unlike. What is answered has the one NaN's.
func TestOutcomeOfReals(t *testing.T) {
	nan, quiet := nanOf(0xFFF0000000000007), nanOf(0x7FF8000000000000)
	log := rising(1, put("k", nan), put("m", minusNought()), put("i", math.Inf(1)), add("i", math.Inf(-1)), add("m", 0))
	p := pairOf(t, firstOf(4), log)
	p.expectTook(log[0], 1, told(quiet))
	for _, bits := range []uint64{0x7FF8000000000000, 0x7FF8000000000001, 0xFFFFFFFFFFFFFFFF, 0x7FF0000000000001} {
		p.expectTook(request(1, 1, put("k", nanOf(bits))), 1, told(quiet))
	}
	p.expectNoEffect(request(1, 1, put("k", math.Inf(1))), request(1, 2, put("m", 0)))
	p.expectTook(log[1], 2, told(minusNought()))
	p.expectTook(log[3], 4, told(quiet))
	p.expectTook(log[4], 5, told(0))
	p.expectAll()
}

// The first slot and the last one that there may be, of the first client and the last one, with the greatest stamp.
func TestOutcomeAtTheEdges(t *testing.T) {
	log := nulls(maxSlot)
	log[0] = request(1, maxStamp, put("k", 1))
	log[3] = request(2, 1, join(4))
	log[4] = request(3, 1, join(4))
	log[239] = request(8, maxStamp-1, leave(4))
	log[240] = request(8, maxStamp, leave(4))
	log[243] = request(7, 1, add("k", 1))
	p := pairOf(t, firstOf(4), log)
	p.expectTook(log[0], 1, told(1))
	p.expectTook(log[3], 4, code(api.CodeOK))
	p.expectTook(log[4], 5, code(api.CodeSame))
	p.expectTook(log[239], 240, code(api.CodeOK))
	p.expectTook(log[240], 241, code(api.CodeAbsent))
	p.expectTook(log[243], 244, told(2))
	p.expectAll()
}

// P22.3: of each client the stamps that took effect rise, each in one slot; and what took effect is in the log there.
func TestStampsRise(t *testing.T) {
	again, old := 0, 0
	for seed := range int64(200) {
		r := rand.New(rand.NewSource(seed))
		log := anyLog(r, r.Intn(60))
		p := pairOf(t, firstOf(4), log)
		var last [clients + 1]int
		slots := map[[2]int]int{} // by clients and stamps
		for i, q := range log {
			slot, _, ok := p.s.Outcome(q)
			if !ok || slot != i+1 {
				again++
				if q.Stamp > last[q.Client] {
					t.Fatalf("%v: the stamp of %v rose in the slot %d and took no effect there", log, q, i+1)
				}
				if !ok {
					old++
				}
				continue
			}
			if q.Stamp <= last[q.Client] {
				t.Fatalf("%v: the stamps of %d don't rise at %d", log, q.Client, slot)
			}
			last[q.Client] = q.Stamp
			if slots[[2]int{q.Client, q.Stamp}] != 0 {
				t.Fatalf("%v: the stamp of %v took effect twice", log, q)
			}
			slots[[2]int{q.Client, q.Stamp}] = slot
		}
	}
	if again < 500 || old < 300 {
		t.Error("too few requests that come again", again, old)
	}
}
