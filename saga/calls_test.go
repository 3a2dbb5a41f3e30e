package saga_test

import (
	"math/rand"
	"slices"
	"testing"

	"witan/api"
	"witan/ledger"
)

// P22.1, Len, State and Conf: at each number within, at and beyond the bounds.

// oneDone is the bytes of the ledger of 0, 1, 2, 3 behind one request of client 2 with the stamp 3, to put 2.5 under "k", written out.
const oneDone = "\x4C" + // a ledger
	"\x00\x08" + "\x43\x00\x00\x04\x00\x01\x02\x03" + // the configuration
	"\x04\x00\x01\x02\x03" + // the members to be
	"\x00\x00\x00\x01" + // done
	"\x01" + "\x00\x01k" + "\x40\x04\x00\x00\x00\x00\x00\x00" + // the keys
	"\x00\x00\x00\x00" + noResult + // the clients
	"\x00\x00\x00\x03" + "\x00\x09" + "\x00" + "\x40\x04\x00\x00\x00\x00\x00\x00" +
	"\x00\x00\x00\x00" + noResult + "\x00\x00\x00\x00" + noResult + "\x00\x00\x00\x00" + noResult +
	"\x00\x00\x00\x00" + noResult + "\x00\x00\x00\x00" + noResult + "\x00\x00\x00\x00" + noResult

const noResult = "\x00\x09" + "\x00" + "\x00\x00\x00\x00\x00\x00\x00\x00"

func TestStateIsTheLedgersBytes(t *testing.T) {
	p := pairOf(t, firstOf(4), []api.Request{request(2, 3, put("k", 2.5))})
	if got, ok := p.s.State(1, false); got != oneDone || !ok {
		t.Errorf("%q %t", got, ok)
	}
	l, _ := ledger.New(conf(0, firstOf(4)...))
	if got, ok := p.s.State(0, false); got != l.Text() || !ok {
		t.Errorf("%q %t", got, ok)
	}
	p.expectAll()
}

// The chapter's example: four requests to join.
func TestExample(t *testing.T) {
	p := pairOf(t, firstOf(4), rising(1, join(4), join(5), join(6), join(7)))
	c, ok := p.s.Conf(1)
	if !ok || c.Epoch != 1 || !slices.Equal(c.Members, firstOf(8)) {
		t.Error(c, ok)
	}
	text, ok := p.s.State(4, true)
	l, e := ledger.Open(text)
	if !ok || e != api.OK || tell(l.Conf()) != tell(c) || l.Done() != 4 || l.Full() {
		t.Errorf("%q %t %d", text, ok, e)
	}
	p.expectAll()
}

// A state stands turned behind each epoch's end alone, and unturned behind each request.
func TestStatesOfSomeEpochs(t *testing.T) {
	log := rising(1, put("k", 1), join(4), put("k", 2), put("k", 3), put("k", 4), leave(0), join(0), put("k", 5), put("k", 6))
	p := pairOf(t, firstOf(4), log)
	for n := -3; n < 13; n++ {
		plain, ok := p.s.State(n, false)
		if isThere := n >= 0 && n <= 9; ok != isThere || (plain != "") != isThere {
			t.Error(n, ok)
		}
		turned, ok := p.s.State(n, true)
		if isThere := n == 4 || n == 8; ok != isThere || (turned != "") != isThere || isThere && turned == plain {
			t.Error(n, ok)
		}
		if l, e := ledger.Open(plain); e == api.OK && (l.Done() != n || l.Conf().Epoch != max(0, n-1)/interval) {
			t.Error(n, l.Done(), l.Conf())
		}
		if l, e := ledger.Open(turned); e == api.OK && (l.Done() != n || l.Conf().Epoch != n/interval) {
			t.Error(n, l.Done(), l.Conf())
		}
	}
	p.expectAll()
}

// How a configuration comes to be there: behind as many requests as its epoch's beginning has, and not one fewer.
func TestConfsOfEachLength(t *testing.T) {
	log := rising(3, join(4), join(5), put("k", 1), leave(0), leave(1), join(0), put("k", 1), put("k", 1), join(1), leave(2), leave(3), join(15))
	want := [][]int{{0, 1, 2, 3}, {1, 2, 3, 4, 5}, {0, 2, 3, 4, 5}, {0, 1, 4, 5, 15}}
	for n := range len(log) + 1 {
		p := pairOf(t, firstOf(4), log[:n])
		for epoch := -2; epoch < 6; epoch++ {
			c, ok := p.s.Conf(epoch)
			isThere := epoch >= 0 && interval*epoch <= n
			if ok != isThere || isThere && (c.Epoch != epoch || !slices.Equal(c.Members, want[epoch])) || !isThere && tell(c) != tell(api.Conf{}) {
				t.Error(n, epoch, c, ok)
			}
		}
		p.expectAll()
	}
}

// The last epoch: it begins behind 240 requests, and what is full behind 244 can't be turned.
func TestTheLastEpoch(t *testing.T) {
	r := rand.New(rand.NewSource(60))
	log := anyLog(r, maxSlot)
	for _, n := range []int{236, 239, 240, 241, 243, 244} {
		p := pairOf(t, firstOf(4), log[:n])
		if _, ok := p.s.State(n, false); !ok || p.s.Len() != n {
			t.Error(n, ok)
		}
		if _, ok := p.s.State(n, true); ok != (n == 236 || n == 240) {
			t.Error(n, ok)
		}
		if _, ok := p.s.State(n+1, false); ok {
			t.Error(n, "one more")
		}
		if c, ok := p.s.Conf(60); ok != (n >= 240) || ok && c.Epoch != 60 {
			t.Error(n, c, ok)
		}
		if _, ok := p.s.Conf(59); !ok {
			t.Error(n, "59")
		}
		if c, ok := p.s.Conf(61); ok || tell(c) != tell(api.Conf{}) {
			t.Error(n, c, ok)
		}
		p.expectAll()
	}
}

// Any logs over many epochs, beside the words: members come and go, requests are null, come a second time, or have stamps that don't rise.
func TestWildSagas(t *testing.T) {
	longest, most := 0, 0
	for seed := range int64(60) {
		r := rand.New(rand.NewSource(seed))
		first := [][]int{firstOf(4), firstOf(7), firstOf(10), {0, 5, 10, 15}, {3, 4, 5, 6, 7}}[seed%5]
		log := anyLog(r, []int{r.Intn(6), r.Intn(30), r.Intn(90)}[seed%3])
		p := pairOf(t, first, log)
		p.expectAll()
		longest = max(longest, len(log))
		for epoch := range len(log)/interval + 1 {
			c, _ := p.s.Conf(epoch)
			most = max(most, len(c.Members))
		}
	}
	if longest < 60 || most < 10 {
		t.Error(longest, most)
	}
}
