package world_test

import (
	"slices"
	"testing"

	"witan/api"
)

// P21.1: the chapter's example.

func TestExample(t *testing.T) {
	p := pairOf(t, firstOf(4), 4, 1)
	p.must(ask(1, put("k", 3)), flush(6))
	for id := range 4 {
		if r := p.w.Replica(id); r.Done() != 1 || r.History()[0] != (api.Entry{Slot: 1, Req: request(1, 1, put("k", 3))}) {
			t.Error(id, r.Done())
		}
	}
	c := p.w.Client(1)
	if _, open := c.Open(); open || len(c.Accepted()) != 1 || c.Results()[0] != (api.Result{Real: 3}) {
		t.Error(c.Results())
	}
}

// Round by round: the request goes to four; the primary proposes and prepares; three prepare; four commit; four answer.
func TestExampleRoundByRound(t *testing.T) {
	one, all := pairOf(t, firstOf(4), 4, 1), pairOf(t, firstOf(4), 4, 1)
	one.must(ask(1, put("k", 3)))
	all.must(ask(1, put("k", 3)))
	for i, n := range []int{4, 6, 9, 12, 4, 0, 0} {
		if one.w.Len() != n {
			t.Errorf("ahead of the round %d %d are under way, asked %d", i, one.w.Len(), n)
		}
		for range one.w.Len() {
			all.must(deliver(0))
		}
		one.must(flush(1))
		if tellWorld(one.w) != tellWorld(all.w) {
			t.Error("a round isn't what delivers so many from the place 0", i)
		}
	}
}

// P21.1: DoDeliver, DoDrop, DoCopy.

// lettered answers a world of ten members of whom 9 is bad, and in which as many packets as told are under way: what 9 prepared, to 0 and 1 and so on. Who is handed one is told by the size of its log.
func lettered(t *testing.T, count int) *pair {
	t.Helper()
	p := pairOf(t, firstOf(10), 10, 1, 9)
	for to := range count {
		p.must(inject(9, to, prepareMsg(9, 0, 0, 1, request(1, 1, put("k", 1)))))
	}
	return p
}

// sizes answers which ones of the first nine were handed a packet.
func sizes(p *pair) []int {
	var list []int
	for id := range 9 {
		if p.w.Replica(id).Size() == 1 {
			list = append(list, id)
		}
	}
	return list
}

// Each number, within the row and beyond it on both sides, in rows of each length up to nine.
func TestEachNumber(t *testing.T) {
	for count := 1; count <= 9; count++ {
		for n := -2*count - 1; n <= 2*count+1; n++ {
			at := ((n % count) + count) % count
			others := slices.DeleteFunc(firstOf(count), func(id int) bool { return id == at })
			p := lettered(t, count)
			p.must(deliver(n))
			if got := sizes(p); !slices.Equal(got, []int{at}) || p.w.Len() != count-1 {
				t.Errorf("the packet %d of %d is that to %v", n, count, got)
			}
			p = lettered(t, count)
			p.must(drop(n))
			if got := sizes(p); len(got) != 0 || p.w.Len() != count-1 {
				t.Errorf("%v were handed what was dropped", got)
			}
			p.must(flush(1))
			if got := sizes(p); !slices.Equal(got, others) {
				t.Errorf("the packet %d of %d was dropped, and %v came", n, count, got)
			}
			p = lettered(t, count)
			p.must(copyOf(n))
			if p.w.Len() != count+1 || len(sizes(p)) != 0 {
				t.Errorf("%d are under way", p.w.Len())
			}
			p.must(deliver(count)) // the copy stands behind the row
			if got := sizes(p); !slices.Equal(got, []int{at}) {
				t.Errorf("the packet %d of %d was copied, and that to %v came", n, count, got)
			}
			p.must(deliver(at), flush(1)) // and the other one where it stood
			if got := sizes(p); !slices.Equal(got, firstOf(count)) {
				t.Error(got)
			}
		}
	}
}

func TestGreatNumbers(t *testing.T) {
	for _, n := range oddNumbers() {
		for _, count := range []int{1, 2, 3, 7} {
			p := lettered(t, count)
			p.must(copyOf(n), deliver(n), drop(n))
			p.drain()
		}
	}
}

func TestNothingIsUnderWay(t *testing.T) {
	p, emptied := four(t, 3), four(t, 3)
	emptied.must(ask(1, put("k", 1)), flush(8))
	dropped := four(t, 3)
	dropped.must(inject(3, 0, fetchMsg(0)), drop(0))
	for _, x := range []*pair{p, emptied, dropped} {
		for _, n := range oddNumbers() {
			x.refused(deliver(n), api.ErrIndex)
			x.refused(drop(n), api.ErrIndex)
			x.refused(copyOf(n), api.ErrIndex)
		}
		x.must(flush(16))
	}
}

// The row at its bound: no copy more, nothing more injected; what is sent is lost; what leaves makes room.
func TestFullRow(t *testing.T) {
	p := four(t, 3)
	p.gaps = 500
	p.must(inject(3, 0, fetchMsg(0)))
	for range maxLane - 1 {
		p.must(copyOf(-1))
	}
	if p.w.Len() != 4096 {
		t.Fatal(p.w.Len())
	}
	p.refused(copyOf(0), api.ErrFull)
	p.refused(copyOf(-4097), api.ErrFull)
	p.refused(inject(3, 0, fetchMsg(0)), api.ErrFull)
	p.must(ask(1, put("k", 1)), tick(-1), tick(-1), tick(-1), tick(-1)) // all lost
	if q, open := p.w.Client(1).Open(); !open || q.Stamp != 1 || p.w.Len() != 4096 || p.w.Now() != 4 {
		t.Error(q, p.w.Len())
	}
	p.must(drop(77), copyOf(0))
	p.refused(copyOf(0), api.ErrFull)
	p.must(drop(77), drop(77), ask(2, put("k", 2))) // two of four packets come
	if p.w.Len() != 4096 {
		t.Error(p.w.Len())
	}
	p.must(flush(1)) // 4096 fetches and requests: the primary proposes
	if p.w.Len() != 6 {
		t.Error(p.w.Len())
	}
	p.drain()
}

// A round in which each packet is answered by three, in a full row: it never has more than it may, and those that were under way at its beginning all arrive.
func TestARoundOfAFullRow(t *testing.T) {
	p := four(t)
	p.gaps = 500
	p.must(ask(1, put("k", 1)), flush(1), ask(2, put("k", 2)))
	for p.w.Len() < maxLane {
		p.must(copyOf(p.w.Len() - 4))
	}
	p.must(flush(1))
	if p.w.Len() > maxLane {
		t.Error(p.w.Len())
	}
	for range 5 {
		p.must(tick(-1))
		for p.w.Len() > 0 && p.w.Len() < maxLane {
			p.must(copyOf(0))
		}
		p.must(flush(2))
		if p.w.Len() > maxLane {
			t.Error(p.w.Len())
		}
	}
	p.drain()
}

// P21.1: that a packet is delivered.

// To nodes that are there, that are bad, and that are nowhere: those that aren't there take nothing, and it leaves the row all the same.
func TestToWhom(t *testing.T) {
	for _, to := range oddNumbers() {
		p := pairOf(t, firstOf(4), 5, 3, 3, 102)
		p.must(inject(3, to, prepareMsg(3, 0, 0, 1, request(1, 1, put("k", 1)))), deliver(0))
		for _, id := range []int{0, 1, 2, 4} {
			want := 0
			if id == to && id != 4 { // 4 is there, and no member yet
				want = 1
			}
			if got := p.w.Replica(id).Size(); got != want {
				t.Errorf("to %d: the replica %d has %d in its log", to, id, got)
			}
		}
		p.must(inject(3, to, askedBy(3)), inject(102, to, askMsg(request(2, 1, put("k", 1)))), flush(3))
		if isPrimary := to == 0; (p.w.Replica(0).Size() > 0) != isPrimary {
			t.Error(to, p.w.Replica(0).Size())
		}
	}
}

// askedBy answers a request of the client 2 that another node signed.
func askedBy(by int) api.Msg {
	m := askMsg(request(2, 1, put("k", 1)))
	m.Sigs[0].By = by
	return m
}

// To clients, by their nodes: two members' replies are enough.
func TestToClients(t *testing.T) {
	for _, to := range []int{1, 2, 100, 101, 102, 103, 104, 201} {
		p := pairOf(t, firstOf(4), 4, 3, 0, 3)
		p.must(ask(1, put("k", 1)), ask(2, put("k", 1)))
		for _, from := range []int{0, 3} {
			p.must(inject(from, to, replyMsg(0, request(1, 1, put("k", 1)), api.Result{Real: 7})), deliver(-1))
			p.must(inject(from, to, replyMsg(0, request(2, 1, put("k", 1)), api.Result{Real: 8})), deliver(-1))
		}
		for _, id := range []int{1, 2, 3} {
			want := 0
			if id == to-node && id != 3 { // 3 asked for nothing
				want = 1
			}
			if got := p.w.Client(id).Accepted(); len(got) != want {
				t.Errorf("to %d: the client %d accepted %v", to, id, got)
			}
		}
	}
}

// From whom: a bad node speaks for itself alone.
func TestFromWhom(t *testing.T) {
	for _, from := range []int{2, 3, 9} {
		p := pairOf(t, firstOf(4), 4, 1, 2, 3, 9)
		p.must(inject(from, 0, prepareMsg(3, 0, 0, 1, request(1, 1, put("k", 1)))), deliver(0))
		want := map[int]int{3: 1}[from]
		if got := p.w.Replica(0).Size(); got != want {
			t.Errorf("from %d: the log has %d", from, got)
		}
	}
}

// What is answered goes to who asked, from who answers: a fetch of each of four, behind an epoch.
func TestAnswersAreSent(t *testing.T) {
	p := four(t, 3)
	endEpoch(p, 1)
	for id := range 3 {
		p.must(inject(3, id, fetchMsg(0)))
	}
	p.must(flush(1))
	if p.w.Len() != 3 {
		t.Fatal(p.w.Len())
	}
	p.must(flush(1)) // to the bad one: nobody is there
	if p.w.Len() != 0 {
		t.Error(p.w.Len())
	}
	if p.w.Client(2).Epoch() != 0 {
		t.Fatal("the client 2 knows an epoch that nobody told of")
	}
	p.must(tick(102), tick(102), tick(102), tick(102)) // the fourth one asks
	if p.w.Len() != 4 {
		t.Fatal(p.w.Len())
	}
	p.must(flush(2))
	if p.w.Client(2).Epoch() != 1 || p.w.Client(1).Epoch() != 0 {
		t.Error(p.w.Client(2).Epoch(), p.w.Client(1).Epoch())
	}
}

// endEpoch lets the client ask for four things, so that the next epoch begins.
func endEpoch(p *pair, client int) {
	p.t.Helper()
	for range interval {
		p.must(ask(client, api.Op{Kind: api.OpPut, Key: "k"}), flush(8))
	}
}

// The time is told with what is delivered: who was handed a request at the time 5 gives up at 13.
func TestTheTimeOfADelivery(t *testing.T) {
	p := four(t)
	for range 5 {
		p.must(tick(101))
	}
	p.must(drop(0), drop(0), drop(0), drop(0)) // what the client fetched
	p.must(ask(1, put("k", 1)), drop(0), deliver(0))
	for range 7 {
		p.must(tick(1))
	}
	if p.w.Now() != 12 || p.w.Replica(1).View() != 0 {
		t.Error(p.w.Now(), p.w.Replica(1).View())
	}
	p.must(tick(1))
	if p.w.Now() != 13 || p.w.Replica(1).View() != 1 {
		t.Error(p.w.Now(), p.w.Replica(1).View())
	}
}

// Likewise in the rounds of a flush, and of what is answered in them.
func TestTheTimeOfAFlush(t *testing.T) {
	p := four(t, 0)
	for range 6 {
		p.must(tick(102))
	}
	p.must(flush(2), ask(1, put("k", 1)), flush(3))
	for range 7 {
		p.must(tick(-1))
	}
	p.must(flush(1))
	if p.w.Now() != 13 || p.w.Replica(1).View() != 0 || p.w.Replica(3).View() != 0 {
		t.Error(p.w.Now(), p.w.Replica(1).View())
	}
	p.must(tick(-1))
	if p.w.Replica(1).View() != 1 || p.w.Replica(3).View() != 1 {
		t.Error(p.w.Replica(1).View())
	}
}

// P21.1: DoTick.

func TestTickOfEachNode(t *testing.T) {
	there := []int{-1, 0, 1, 3, 4, 101, 103}
	for _, n := range oddNumbers() {
		p := pairOf(t, firstOf(4), 5, 3, 2, 102)
		if !slices.Contains(there, n) {
			p.refused(tick(n), api.ErrIndex)
			if p.w.Now() != 0 {
				t.Error(n, p.w.Now())
			}
			p.must(tick(-1))
			continue
		}
		for now := 1; now <= 9; now++ {
			p.must(tick(n))
			if p.w.Now() != now {
				t.Error(n, p.w.Now())
			}
		}
		// Each fourth time a member asks three others for what was settled, one who is none all four, and a client all four.
		want := map[int]int{-1: 2 * (3*3 + 4 + 2*4), 0: 6, 1: 6, 3: 6, 4: 8, 101: 8, 103: 8}[n]
		if p.w.Len() != want {
			t.Errorf("the node %d told %d, asked %d", n, p.w.Len(), want)
		}
	}
}

// A node's Tick is told the time, whosoever ticks brought it there.
func TestTheTimeGoesOnForAll(t *testing.T) {
	p := four(t)
	p.must(tick(0), tick(1), tick(2), tick(102))
	if p.w.Len() != 4 { // the client 2, at the time 4
		t.Error(p.w.Len())
	}
	p.must(tick(102), tick(102), tick(102), tick(3))
	if p.w.Len() != 4+3 { // the member 3, at the time 8
		t.Error(p.w.Len())
	}
	p.must(tick(101), tick(-1), tick(0), tick(0))
	if p.w.Now() != 12 || p.w.Len() != 4+3+3 {
		t.Error(p.w.Now(), p.w.Len())
	}
}

// Of everybody the replicas come first, rising, then the clients, rising: where each packet stands tells it.
func TestTheOrderOfATickOfAll(t *testing.T) {
	first := func(steps ...api.Do) api.Request {
		p := four(t)
		p.must(ask(1, put("k", 1)), ask(2, put("k", 2)))
		for range 8 {
			p.must(drop(0))
		}
		for range 4 {
			p.must(tick(-1))
		}
		// Four members tell three others each; each client asks anew, and fetches.
		if p.w.Len() != 4*3+2*(4+4) {
			t.Fatal(p.w.Len())
		}
		p.must(steps...)
		p.must(flush(8))
		return p.w.Replica(0).History()[0].Req
	}
	if q := first(deliver(12)); q.Client != 1 {
		t.Error("at the place 12 isn't the client 1's request to the member 0", q)
	}
	if q := first(deliver(20)); q.Client != 2 {
		t.Error("at the place 20 isn't the client 2's request to the member 0", q)
	}
	if q := first(drop(12)); q.Client != 2 {
		t.Error("the first one to be delivered isn't the client 1's", q)
	}
	if q := first(); q.Client != 1 {
		t.Error(q)
	}
}

// Replicas, rising: what the members 0, 1 and 2 say stands at the places 0, 9 and 15.
func TestTheOrderOfReplicas(t *testing.T) {
	sizeOf3 := func(at int) int {
		p := pairOf(t, firstOf(4), 4, 1)
		p.must(ask(1, put("k", 1)), deliver(0), drop(0), drop(0), drop(0)) // the member 0 proposes and prepares
		p.must(deliver(0), deliver(0))                                     // to 1 and 2, which prepare
		for p.w.Len() > 0 {
			p.must(drop(0))
		}
		for range 4 {
			p.must(tick(-1))
		}
		// 0 tells MPropose and MPrepare, 1 and 2 MPrepare, each MFetch, to three; then the client asks anew.
		if p.w.Len() != 9+6+6+3+8 {
			t.Fatal(p.w.Len())
		}
		p.must(deliver(at))
		return p.w.Replica(3).Size()
	}
	for at := range 32 {
		want := map[int]int{2: 2, 5: 1, 11: 1, 17: 1}[at] // a proposal and what 3 itself prepares then; what 0, 1, 2 prepared
		if got := sizeOf3(at); got != want {
			t.Errorf("the packet %d makes the log of 3 have %d, asked %d", at, got, want)
		}
	}
}

// P21.1: DoAsk.

func TestAskOfEachClient(t *testing.T) {
	p := pairOf(t, firstOf(4), 16, 5, 102, 105)
	for _, n := range oddNumbers() {
		before := p.w.Len()
		if n == 1 || n == 3 || n == 4 {
			p.must(ask(n, put("k", float64(n))))
			if q, open := p.w.Client(n).Open(); !open || q != request(n, 1, put("k", float64(n))) || p.w.Len() != before+4 {
				t.Error(n, q)
			}
			continue
		}
		p.refused(ask(n, put("k", 1)), api.ErrIndex)
		p.refused(ask(n, api.Op{}), api.ErrIndex)
	}
	p.drain()
}

func TestAskWithItsErrors(t *testing.T) {
	wrong := []api.Op{{}, {Kind: -1}, {Kind: 8}, put("", 1), put("12345678901234567", 1), {Kind: api.OpGet, Key: "k", Real: 1}, {Kind: api.OpPut, Key: "k", ID: 1}, join(16), join(-1), {Kind: api.OpLeave, ID: 1, Key: "k"}}
	p := four(t)
	for _, o := range wrong {
		p.refused(ask(1, o), api.ErrArg)
	}
	p.must(ask(1, put("1234567890123456", nanOf(0x7FF0000000000001))))
	for _, o := range wrong {
		p.refused(ask(1, o), api.ErrArg) // named ahead of the request that is open
	}
	p.refused(ask(1, put("k", 1)), api.ErrState)
	p.must(ask(2, join(15)))
	p.refused(ask(2, leave(0)), api.ErrState)
	p.must(flush(8), ask(1, leave(0)), flush(8))
	if got := p.w.Client(1).Accepted(); len(got) != 2 || got[1].Req.Stamp != 2 {
		t.Error(got)
	}
}

// P21.1: DoInject.

func TestInjectWithEachError(t *testing.T) {
	p := pairOf(t, firstOf(4), 4, 2, 3, 102)
	fits, unseen := prepareMsg(3, 0, 0, 1, request(1, 1, put("k", 1))), prepareMsg(1, 0, 0, 1, request(1, 1, put("k", 1)))
	unfit := api.Msg{Kind: api.MFetch, Sigs: unseen.Sigs}
	for _, from := range oddNumbers() {
		if from == 3 || from == 102 {
			continue
		}
		for _, m := range []api.Msg{fits, unseen, unfit, {}} {
			p.refused(inject(from, 3, m), api.ErrArg)
			p.refused(inject(from, 0, m), api.ErrArg)
		}
	}
	for _, from := range []int{3, 102} {
		for _, m := range []api.Msg{{}, {Kind: 11}, {Kind: -1}, unfit, long(), {Kind: api.MFetch, Epoch: 61}} {
			p.refused(inject(from, 0, m), api.ErrField)
		}
		p.refused(inject(from, 0, unseen), api.ErrSig)
		for _, to := range oddNumbers() {
			p.must(inject(from, to, fits))
		}
	}
	p.drain()
}

// What honest nodes sent may be injected, by whatever bad node, whether it arrived or not; what is refused or injected itself makes nothing seen.
func TestInjectOfWhatWasSent(t *testing.T) {
	p := pairOf(t, firstOf(4), 4, 2, 3, 102)
	asked := askMsg(request(1, 1, put("k", 1)))
	p.refused(inject(3, 0, asked), api.ErrSig)
	p.refused(inject(3, 0, asked), api.ErrSig)
	p.must(inject(3, 0, askMsg(request(2, 1, put("k", 1))))) // the client 2 is bad
	p.must(ask(1, put("k", 1)), inject(3, 0, asked), inject(102, 7, asked))
	p.refused(inject(3, 0, askMsg(request(1, 2, put("k", 1)))), api.ErrSig)
	prepared := prepareMsg(0, 0, 0, 1, request(1, 1, put("k", 1)))
	p.refused(inject(3, 1, prepared), api.ErrSig)
	p.must(drop(0), deliver(0)) // what was injected first is dropped; the client 1's request comes to the primary
	p.must(inject(3, 1, prepared))
	p.drain()
	p.must(inject(3, 1, prepared))
	p.drain()
}

// Each kind of message, with all the lists that it may have, goes through: whoever is told it does what its layer says.
func TestInjectOfEachKind(t *testing.T) {
	p := four(t, 3)
	for _, m := range mixed(3) {
		p.must(inject(3, 0, m), inject(3, 101, m), inject(3, 3, m), inject(3, 50, m), copyOf(-2))
	}
	p.drain()
}

// P21.1: DoFlush.

func TestFlushOfEachNumber(t *testing.T) {
	for _, n := range oddNumbers() {
		p := four(t)
		p.must(ask(1, put("k", 1)))
		if n < 0 || n > 16 {
			p.refused(flush(n), api.ErrArg)
			p.must(flush(1), deliver(0))
			p.refused(flush(n), api.ErrArg)
			continue
		}
		p.must(flush(n))
		if want := []int{4, 6, 9, 12, 4, 0}[min(n, 5)]; p.w.Len() != want {
			t.Errorf("behind %d rounds %d are under way, asked %d", n, p.w.Len(), want)
		}
	}
	empty := four(t)
	empty.refused(flush(-1), api.ErrArg)
	empty.refused(flush(17), api.ErrArg)
	empty.must(flush(0), flush(1), flush(16))
}

// Many rounds are as one round many times; none is nothing. Time stands still.
func TestFlushIsRoundByRound(t *testing.T) {
	one, many := four(t), four(t)
	for i := range 40 {
		for _, p := range []*pair{one, many} {
			if _, open := p.w.Client(1).Open(); !open {
				p.must(ask(1, put("k", float64(i))))
			}
			p.must(tick(-1), flush(0))
		}
		many.must(flush(i % 17))
		for range i % 17 {
			one.must(flush(1))
		}
		if tellWorld(one.w) != tellWorld(many.w) {
			t.Fatal(i)
		}
	}
	if many.w.Now() != 40 {
		t.Error(many.w.Now())
	}
}

// P21.1: kinds that are none, whatever else there is.
func TestNoKind(t *testing.T) {
	p := four(t, 3)
	p.must(ask(1, put("k", 1)))
	for _, kind := range oddNumbers() {
		if kind >= 1 && kind <= 7 {
			continue
		}
		for _, n := range []int{-1, 0, 1, 101, 17} {
			p.refused(api.Do{Kind: kind, N: n, From: 3, Op: get("k"), Msg: fetchMsg(0)}, api.ErrKind)
		}
	}
	p.drain()
}

// What a kind doesn't name plays no part.
func TestWhatAKindDoesNotName(t *testing.T) {
	p := pairOf(t, firstOf(4), 4, 2, 3)
	for _, x := range []api.Do{ask(1, put("k", 1)), deliver(1), drop(0), copyOf(0), tick(-1), tick(0), flush(2), tick(101)} {
		x.From = -9
		x.Msg = long()
		if x.Kind != api.DoAsk {
			x.Op = api.Op{Kind: 99, Key: "kkkkkkkkkkkkkkkkkkkk", ID: 77}
		}
		p.must(x)
	}
	x := inject(3, 0, fetchMsg(0))
	x.Op = api.Op{Kind: 99}
	p.must(x)
	p.drain()
}
