package papers_test

import (
	"math/bits"
	"slices"
	"testing"

	"witan/api"
	"witan/grove"
	"witan/papers"
)

// chosen answers those of the list whose bits the set has.
func chosen(list []int, set int) []int {
	var some []int
	for i, id := range list {
		if set>>i&1 == 1 {
			some = append(some, id)
		}
	}
	return some
}

// orders answers the list in every order.
func orders(list []int) [][]int {
	if len(list) == 0 {
		return [][]int{nil}
	}
	var all [][]int
	for i, id := range list {
		for _, rest := range orders(slices.Delete(slices.Clone(list), i, i+1)) {
			all = append(all, append([]int{id}, rest...))
		}
	}
	return all
}

// oldAndNext answers two papers, one of an epoch and one of the next.
func oldAndNext() (old, next api.Paper) {
	return paper(0, 0, 2, 4, 15), paper(1, 0, 1, 2, 4, 15)
}

// P8.1: the chapter's examples.

func TestExamples(t *testing.T) {
	old, next := oldAndNext()
	expectCheck(t, old, cert(old, next, 0, 2, 4), next, api.OK)
	expectRefused(t, old, cert(old, next, 0, 2), api.ErrQuorum)
	for _, epoch := range []int{0, 2} {
		other := paper(epoch, 0, 1, 2, 4, 15)
		expectRefused(t, old, cert(old, other, 0, 2, 4), api.ErrEpoch)
	}
}

// What Certify makes of a grove's own signatures is what Check takes, by whichever leaf each was signed.
func TestCheckOfCertifyByEveryLeaf(t *testing.T) {
	old, next := oldAndNext()
	s, _ := papers.Bytes(next)
	var signers []*grove.Signer
	for _, id := range []int{2, 4, 15} {
		signer, _ := grove.New(seedOf(0, id), api.Height)
		signers = append(signers, signer)
	}
	for range 8 {
		var sigs []papers.Signed
		for i, id := range []int{2, 4, 15} {
			sig, e := signers[i].Sign(s)
			if e != api.OK {
				t.Fatal(e)
			}
			sigs = append(sigs, papers.Signed{ID: id, Sig: sig})
		}
		c, e := papers.Certify(next, sigs)
		if e != api.OK {
			t.Fatal(e)
		}
		expectCheck(t, old, c, next, api.OK)
	}
}

// P8.2: of every number of seats every set of signers: a quorum is taken, and one more, and all; fewer are not.
func TestCheckOfEverySetOfSigners(t *testing.T) {
	for n := least; n <= most; n++ {
		list := last(n)
		old, next := paper(20, list...), paper(21, first(least)...)
		for set := range 1 << n {
			c := cert(old, next, chosen(list, set)...)
			if bits.OnesCount(uint(set)) >= quorums()[n] {
				expectCheck(t, old, c, next, api.OK)
			} else {
				expectRefused(t, old, c, api.ErrQuorum)
			}
		}
	}
}

// P8.2: how many are a quorum follows from the old seats, not from the new ones.
func TestQuorumIsOfTheOldSeats(t *testing.T) {
	for _, n := range []int{least, 5, 7, most} {
		for _, m := range []int{least, 5, 7, most} {
			old, next := paper(20, last(n)...), paper(21, first(m)...)
			quorum := quorums()[n]
			expectCheck(t, old, cert(old, next, last(n)[:quorum]...), next, api.OK)
			expectRefused(t, old, cert(old, next, last(n)[:quorum-1]...), api.ErrQuorum)
		}
	}
}

// P8.2: every other order of a quorum's signatures, of fewer and of more.
func TestCheckOfEveryOrder(t *testing.T) {
	old, next := oldAndNext()
	for _, list := range [][]int{{0, 2}, {0, 2, 4}, {2, 4, 15}, {0, 2, 4, 15}} {
		for _, order := range orders(list) {
			switch c := cert(old, next, order...); {
			case !slices.IsSorted(order):
				expectRefused(t, old, c, api.ErrSig)
			case len(order) < 3:
				expectRefused(t, old, c, api.ErrQuorum)
			default:
				expectCheck(t, old, c, next, api.OK)
			}
		}
	}
	seven, after := paper(20, last(7)...), paper(21, first(4)...)
	expectCheck(t, seven, cert(seven, after, 9, 10, 11, 12, 13), after, api.OK)
	for i := range 4 {
		order := []int{9, 10, 11, 12, 13}
		order[i], order[i+1] = order[i+1], order[i]
		expectRefused(t, seven, cert(seven, after, order...), api.ErrSig)
	}
}

func TestCheckOfASignerTwice(t *testing.T) {
	old, next := oldAndNext()
	for _, list := range [][]int{{0, 0}, {0, 0, 2}, {0, 2, 2}, {0, 0, 2, 4}, {0, 2, 2, 4}, {0, 2, 4, 4}, {0, 2, 4, 15, 15}, {0, 2, 4, 0}, {15, 15, 15}} {
		expectRefused(t, old, cert(old, next, list...), api.ErrSig)
	}
	s := modelBytes(next)
	signer, _ := grove.New(seedOf(0, 2), height)
	var twice []papers.Signed
	for range 2 {
		sig, _ := signer.Sign(s)
		twice = append(twice, papers.Signed{ID: 2, Sig: sig})
	}
	expectRefused(t, old, modelCert(s, append(twice, signed(old, next, 4)...)), api.ErrSig)
}

// Who is no seat of the old paper signs in vain, and so does all of the certificate: a replica, a new seat, a number that no replica has.
func TestCheckOfASignerWhoIsNoSeat(t *testing.T) {
	old, next := oldAndNext()
	for _, list := range [][]int{{1}, {0, 1, 2, 4}, {0, 2, 4, 5}, {0, 2, 3, 4, 15}, {0, 2, 4, 15, 16}, {0, 2, 4, 15, 255}, {1, 3, 5}, {0, 1, 2}} {
		expectRefused(t, old, cert(old, next, list...), api.ErrSig)
	}
	s := modelBytes(next)
	for _, by := range []papers.Signed{
		{ID: 1, Sig: sigOf(1, 1, height, s)},
		{ID: 1, Sig: sigOf(0, 0, height, s)},
		{ID: 1, Sig: ""},
	} {
		sigs := slices.Insert(signed(old, next, 0, 2, 4), 1, by)
		expectRefused(t, old, modelCert(s, sigs), api.ErrSig)
	}
	// A seat that the next paper has no more may sign, and so may one whose root changed.
	left := paper(1, 5, 6, 7, 8)
	expectCheck(t, old, cert(old, left, 0, 2, 4), left, api.OK)
}

// Each signature of the four, also behind a quorum of right ones, is put in the place of a right one.
func expectWrongSigs(t *testing.T, wrong func(id int, right string) []string) {
	t.Helper()
	old, next := oldAndNext()
	for _, list := range [][]int{{0, 2, 4, 15}, {0, 4, 15}, {2, 15}, {4}} {
		for place, id := range list {
			right := signed(old, next, list...)
			for _, sig := range wrong(id, right[place].Sig) {
				sigs := slices.Clone(right)
				sigs[place].Sig = sig
				expectRefused(t, old, modelCert(modelBytes(next), sigs), api.ErrSig)
			}
		}
	}
}

func TestCheckOfSignaturesOfOtherTexts(t *testing.T) {
	old, next := oldAndNext()
	s := modelBytes(next)
	others := []string{"", s[1:], s[:len(s)-1], s + "\x00", lengthAndText(s), modelBytes(old), modelBytes(paper(2, 0, 1, 2, 4, 15)), modelBytes(paper(1, 0, 1, 2, 4)), modelCert(s, nil)}
	expectWrongSigs(t, func(id int, _ string) []string {
		var sigs []string
		for _, other := range others {
			sigs = append(sigs, sigOf(0, id, height, other))
		}
		return sigs
	})
}

// The same texts under other keys: another seat's, the same replica's of another epoch, another grove's.
func TestCheckOfSignaturesUnderOtherRoots(t *testing.T) {
	_, next := oldAndNext()
	s := modelBytes(next)
	expectWrongSigs(t, func(id int, _ string) []string {
		sigs := []string{sigOf(1, id, height, s), sigOf(2, id, height, s)}
		for _, other := range []int{0, 1, 2, 4, 15} {
			if other != id {
				sigs = append(sigs, sigOf(0, other, height, s))
			}
		}
		return sigs
	})
}

func TestCheckOfSignaturesCutAndLengthened(t *testing.T) {
	expectWrongSigs(t, func(_ int, right string) []string {
		return []string{"", right[:1], right[:560], right[:561], right[:len(right)-32], right[:len(right)-1], right[1:], right + "\x00", right + text(32), right + right, text(657), text(65535)}
	})
}

func TestCheckOfAChangedSignature(t *testing.T) {
	old, next := oldAndNext()
	s := modelBytes(next)
	for place := range 657 {
		sigs := signed(old, next, 0, 2, 4)
		changed := []byte(sigs[place%3].Sig)
		changed[place] ^= 1 << (place % 8)
		sigs[place%3].Sig = string(changed)
		expectRefused(t, old, modelCert(s, sigs), api.ErrSig)
	}
}

// Groves of another height than Height: a signature that their own height takes is none.
func TestCheckOfOtherHeights(t *testing.T) {
	_, next := oldAndNext()
	s := modelBytes(next)
	for h := range 6 {
		old := api.Paper{}
		var sigs []papers.Signed
		for _, id := range []int{0, 2, 4, 15} {
			root, _ := grove.Root(seedOf(0, id), h)
			old.Seats = append(old.Seats, api.Seat{ID: id, Root: root})
			sig := sigOf(0, id, h, s)
			if !grove.Verify(root, h, s, sig) {
				t.Fatal(h, id)
			}
			sigs = append(sigs, papers.Signed{ID: id, Sig: sig})
		}
		if h == height {
			expectCheck(t, old, modelCert(s, sigs), next, api.OK)
		} else {
			expectRefused(t, old, modelCert(s, sigs), api.ErrSig)
		}
	}
}

// Two seats under one root, which no paper forbids: what one of them signed goes for the other.
func TestCheckOfSeatsWithOneRoot(t *testing.T) {
	old, next := oldAndNext()
	for i := range old.Seats {
		old.Seats[i].Root = old.Seats[1].Root
	}
	sig := sigOf(0, 2, height, modelBytes(next))
	sigs := []papers.Signed{{ID: 0, Sig: sig}, {ID: 4, Sig: sig}, {ID: 15, Sig: sig}}
	expectCheck(t, old, modelCert(modelBytes(next), sigs), next, api.OK)
}

// P8.1: epochs.

func TestCheckOfEpochs(t *testing.T) {
	for _, epoch := range []int{0, 1, 60, 61, 254, 255, 256, 32767, 65533, 65534, 65535} {
		old := paper(epoch, 0, 3, 7, 15)
		for _, other := range []int{0, 1, 2, epoch - 2, epoch - 1, epoch, epoch + 1, epoch + 2, 65534, 65535} {
			if other < 0 || other > lastEpoch {
				continue
			}
			next := plain(other, 1, 2, 3, 4)
			c := cert(old, next, 0, 3, 7)
			if other == epoch+1 {
				expectCheck(t, old, c, next, api.OK)
			} else {
				expectRefused(t, old, c, api.ErrEpoch)
			}
		}
	}
}

// P8.1: what are no certificate's bytes.

func TestCheckOfCutAndLongCertificates(t *testing.T) {
	old, next := oldAndNext()
	for _, c := range []string{cert(old, next, 0, 2, 4), cert(old, next)} {
		for end := range c {
			expectRefused(t, old, c[:end], api.ErrBytes)
		}
		for _, more := range []string{"\x00", "x", "\x0f\x00\x00", text(700), c} {
			expectRefused(t, old, c+more, api.ErrBytes)
		}
		expectRefused(t, old, "\x00"+c, api.ErrBytes)
		expectRefused(t, old, c[1:], api.ErrBytes)
		expectRefused(t, old, c[2:], api.ErrBytes)
	}
	for _, c := range []string{"", "\x00", "\x00\x00", "\x00\x00\x00", "\x00\x01P\x00", "\xff\xff", text(169), text(100000), modelBytes(next)} {
		expectRefused(t, old, c, api.ErrBytes)
	}
}

func TestCheckOfEveryOtherCount(t *testing.T) {
	old, next := oldAndNext()
	s := modelBytes(next)
	place := 2 + len(s)
	for _, list := range [][]int{nil, {0, 2, 4}, {0, 2, 4, 15}} {
		c := cert(old, next, list...)
		for count := range 256 {
			if count != len(list) {
				expectRefused(t, old, c[:place]+string([]byte{byte(count)})+c[place+1:], api.ErrBytes)
			}
		}
	}
}

// Sixteen signatures are a certificate's bytes, and can't all be seats'; seventeen are none.
func TestCheckOfSixteenSignaturesAndMore(t *testing.T) {
	old, next := oldAndNext()
	s := modelBytes(next)
	for n := 13; n <= 20; n++ {
		sigs := signed(old, next, 0, 2, 4)
		for id := range n - 3 {
			sigs = append(sigs, papers.Signed{ID: 16 + id, Sig: text(id)})
		}
		if n <= maxSigs {
			expectRefused(t, old, modelCert(s, sigs), api.ErrSig)
		} else {
			expectRefused(t, old, modelCert(s, sigs), api.ErrBytes)
		}
	}
	long := make([]papers.Signed, maxSigs)
	for i := range long {
		long[i] = papers.Signed{ID: i, Sig: text(maxSig)}
	}
	expectRefused(t, old, modelCert(s, long), api.ErrSig)
}

// Papers that aren't right, signed by all: their bytes are no certificate's.
func TestCheckOfCertificatesOfWrongPapers(t *testing.T) {
	old, _ := oldAndNext()
	long := plain(1, 0, 1, 2, 3)
	long.Seats[3].Root += "x"
	short := plain(1, 0, 1, 2, 3)
	short.Seats[0].Root = short.Seats[0].Root[1:]
	for _, wrong := range []api.Paper{
		plain(1), plain(1, 0, 1, 2), plain(1, first(11)...), plain(1, 0, 2, 1, 3), plain(1, 0, 1, 1, 2), plain(1, 0, 1, 2, 16), plain(1, 0, 1, 2, 255), long, short,
	} {
		expectRefused(t, old, cert(old, wrong, 0, 2, 4, 15), api.ErrBytes)
	}
	_, next := oldAndNext()
	s := modelBytes(next)
	for _, s := range []string{"", "Q" + s[1:], "C" + s[1:], s + "x", s[:len(s)-1]} {
		var sigs []papers.Signed
		for _, id := range []int{0, 2, 4, 15} {
			sigs = append(sigs, papers.Signed{ID: id, Sig: sigOf(0, id, height, s)})
		}
		expectRefused(t, old, modelCert(s, sigs), api.ErrBytes)
	}
}

// Every byte of a certificate changed, against the model: it is refused, each time by the first error that the chapter names.
func TestCheckOfEveryChangedByte(t *testing.T) {
	old, next := oldAndNext()
	c := cert(old, next, 0, 2, 4)
	for place := range c {
		changed := []byte(c)
		changed[place] ^= 1 << (place % 8)
		_, wantErr := modelCheck(old, string(changed))
		if wantErr == api.OK {
			t.Fatal(place)
		}
		expectRefused(t, old, string(changed), wantErr)
	}
}

// P8.1: old papers that aren't right.

func TestCheckOfWrongOldPapers(t *testing.T) {
	good, next := oldAndNext()
	c := cert(good, next, 0, 2, 4)
	for name, old := range wrongPapers() {
		for _, c := range []string{c, "", text(50)} {
			if p, e := papers.Check(old, c); e != api.ErrField || !samePaper(p, api.Paper{}) {
				t.Errorf("%s: %v %d", name, p, e)
			}
		}
	}
	// Right seats that would do, and one thing that isn't right.
	extra := copied(good)
	extra.Seats = append(extra.Seats, api.Seat{ID: 16, Root: text(32)})
	turned := copied(good)
	turned.Seats[2], turned.Seats[3] = turned.Seats[3], turned.Seats[2]
	short := copied(good)
	short.Seats[3].Root = text(31)
	for _, old := range []api.Paper{extra, turned, short} {
		expectRefused(t, old, c, api.ErrField)
	}
}

// R1: with any of the five errors together the first one is answered.
func TestCheckOfSeveralErrors(t *testing.T) {
	good, next := oldAndNext()
	for set := range 1 << 5 {
		old, paper, list := copied(good), next, []int{0, 2, 4, 15}
		wants := []api.Errno{api.ErrField, api.ErrBytes, api.ErrEpoch, api.ErrSig, api.ErrQuorum}
		want := api.OK
		for i := len(wants) - 1; i >= 0; i-- {
			if set>>i&1 == 1 {
				want = wants[i]
			}
		}
		if set&1 != 0 {
			old.Seats[3].Root += "x"
		}
		if set&4 != 0 {
			paper.Epoch = 2
		}
		if set&16 != 0 {
			list = []int{0, 2}
		}
		sigs := signed(good, paper, list...)
		if set&8 != 0 {
			sigs[1].Sig = text(657)
		}
		c := modelCert(modelBytes(paper), sigs)
		if set&2 != 0 {
			c += "x"
		}
		if want == api.OK {
			expectCheck(t, old, c, paper, api.OK)
		} else {
			expectRefused(t, old, c, want)
		}
	}
}

// Too few signatures, one of them wrong in each way: the wrong one counts.
func TestCheckOfTooFewWrongSignatures(t *testing.T) {
	old, next := oldAndNext()
	for _, list := range [][]int{{1}, {0, 1}, {2, 0}, {2, 2}, {16}, {0, 255}} {
		expectRefused(t, old, cert(old, next, list...), api.ErrSig)
	}
	expectRefused(t, old, cert(old, next), api.ErrQuorum)
	for _, id := range []int{0, 2, 4, 15} {
		expectRefused(t, old, cert(old, next, id), api.ErrQuorum)
	}
}

// R4: the old paper stays as it was, and what is answered is nobody else's.
func TestCheckSharesNothing(t *testing.T) {
	old, next := oldAndNext()
	before := copied(old)
	c := cert(old, next, 0, 2, 4)
	one, e := papers.Check(old, c)
	other, _ := papers.Check(old, c)
	if e != api.OK || !samePaper(old, before) {
		t.Errorf("%v %d", old, e)
	}
	spoil(one)
	if !samePaper(old, before) || !samePaper(other, next) {
		t.Errorf("%v %v", old, other)
	}
	expectCheck(t, old, c, next, api.OK)
	expectRefused(t, old, c[1:], api.ErrBytes)
	if !samePaper(old, before) {
		t.Errorf("%v", old)
	}
}

func FuzzCheck(f *testing.F) {
	old, next := oldAndNext()
	f.Add(cert(old, next, 0, 2, 4), 0, 4)
	f.Add(cert(old, next, 0, 2, 4, 15), 0, 4)
	f.Add(cert(old, next, 0, 2), 0, 4)
	f.Add(cert(old, next, 2, 0, 4), 0, 4)
	f.Add(cert(old, next), 1, 4)
	f.Add("", 0, 3)
	f.Fuzz(func(t *testing.T, c string, epoch, seats int) {
		old := copied(old)
		old.Epoch, old.Seats = epoch, old.Seats[:max(min(seats, 4), 0)]
		want, wantErr := modelCheck(old, c)
		expectCheck(t, old, c, want, wantErr)
	})
}
