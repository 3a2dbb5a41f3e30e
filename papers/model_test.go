package papers_test

import (
	"encoding/binary"
	"slices"
	"strconv"
	"strings"
	"sync"
	"testing"

	"witan/api"
	"witan/grove"
	"witan/papers"
)

const (
	least     = 4
	most      = 10
	ids       = 16
	lastEpoch = 65535
	maxSigs   = 16
	maxSig    = 65535
	height    = 3
)

// quorums answers how many signatures are enough, by the number of seats, written out.
func quorums() map[int]int {
	return map[int]int{4: 3, 5: 4, 6: 4, 7: 5, 8: 6, 9: 6, 10: 7}
}

// modelRight tells if the paper is right: its IDs are just what is left of them when they are sorted, once each, within the numbers.
func modelRight(p api.Paper) bool {
	var all, kept []int
	for _, seat := range p.Seats {
		if len(seat.Root) != 32 {
			return false
		}
		all = append(all, seat.ID)
	}
	for id := range ids {
		if slices.Contains(all, id) {
			kept = append(kept, id)
		}
	}
	return slices.Equal(all, kept) && len(all) >= least && len(all) <= most && p.Epoch >= 0 && p.Epoch <= lastEpoch
}

// modelBytes answers a paper's bytes, of one that isn't right too, as far as its numbers go into theirs.
func modelBytes(p api.Paper) string {
	bytes := binary.BigEndian.AppendUint16([]byte("P"), uint16(p.Epoch))
	bytes = append(bytes, byte(len(p.Seats)))
	for _, seat := range p.Seats {
		bytes = append(append(bytes, byte(seat.ID)), seat.Root...)
	}
	return string(bytes)
}

// modelRead takes the only paper whose bytes the text could be, and looks if they are.
func modelRead(text string) (api.Paper, api.Errno) {
	if len(text) < 4 {
		return api.Paper{}, api.ErrBytes
	}
	p := api.Paper{Epoch: 256*int(text[1]) + int(text[2])}
	for rest := text[4:]; len(rest) >= 33; rest = rest[33:] {
		p.Seats = append(p.Seats, api.Seat{ID: int(rest[0]), Root: rest[1:33]})
	}
	if !modelRight(p) || modelBytes(p) != text {
		return api.Paper{}, api.ErrBytes
	}
	return p, api.OK
}

func lengthAndText(s string) string {
	return string(binary.BigEndian.AppendUint16(nil, uint16(len(s)))) + s
}

// modelCert answers a certificate's bytes of whatever stands in the paper's place, as far as the numbers go into theirs.
func modelCert(text string, sigs []papers.Signed) string {
	var bytes strings.Builder
	bytes.WriteString(lengthAndText(text))
	bytes.WriteByte(byte(len(sigs)))
	for _, s := range sigs {
		bytes.WriteByte(byte(s.ID))
		bytes.WriteString(lengthAndText(s.Sig))
	}
	return bytes.String()
}

// modelCut cuts a text with its length off the front.
func modelCut(bytes string) (text, rest string, ok bool) {
	if len(bytes) < 2 {
		return "", "", false
	}
	end := 2 + 256*int(bytes[0]) + int(bytes[1])
	if len(bytes) < end {
		return "", "", false
	}
	return bytes[2:end], bytes[end:], true
}

func modelReadCert(cert string) (p api.Paper, text string, sigs []papers.Signed, ok bool) {
	text, rest, ok := modelCut(cert)
	p, e := modelRead(text)
	if !ok || e != api.OK || rest == "" {
		return api.Paper{}, "", nil, false
	}
	count, rest := int(rest[0]), rest[1:]
	for rest != "" {
		sig, behind, ok := modelCut(rest[1:])
		if !ok {
			return api.Paper{}, "", nil, false
		}
		sigs = append(sigs, papers.Signed{ID: int(rest[0]), Sig: sig})
		rest = behind
	}
	return p, text, sigs, count == len(sigs) && count <= maxSigs
}

func modelCheck(old api.Paper, cert string) (api.Paper, api.Errno) {
	if !modelRight(old) {
		return api.Paper{}, api.ErrField
	}
	p, text, sigs, ok := modelReadCert(cert)
	if !ok {
		return api.Paper{}, api.ErrBytes
	}
	if p.Epoch-old.Epoch != 1 {
		return api.Paper{}, api.ErrEpoch
	}
	roots := map[int]string{}
	for _, seat := range old.Seats {
		roots[seat.ID] = seat.Root
	}
	var signers []int
	for _, s := range sigs {
		if roots[s.ID] == "" || slices.Contains(signers, s.ID) || !grove.Verify(roots[s.ID], height, text, s.Sig) {
			return api.Paper{}, api.ErrSig
		}
		signers = append(signers, s.ID)
	}
	if !slices.IsSorted(signers) {
		return api.Paper{}, api.ErrSig
	}
	if len(signers) < quorums()[len(roots)] {
		return api.Paper{}, api.ErrQuorum
	}
	return p, api.OK
}

// text answers n bytes that are not all alike.
func text(n int) string {
	bytes := make([]byte, n)
	for i := range bytes {
		bytes[i] = byte(i*i + 7*i + 3)
	}
	return string(bytes)
}

// first answers the IDs 0 to n - 1.
func first(n int) []int {
	var list []int
	for id := range n {
		list = append(list, id)
	}
	return list
}

// last answers the n IDs up to 15.
func last(n int) []int {
	var list []int
	for id := ids - n; id < ids; id++ {
		list = append(list, id)
	}
	return list
}

// plain answers a paper whose roots are bytes that nobody signs under.
func plain(epoch int, list ...int) api.Paper {
	p := api.Paper{Epoch: epoch}
	for i, id := range list {
		p.Seats = append(p.Seats, api.Seat{ID: id, Root: text(40 + i)[8+i:]})
	}
	return p
}

func seedOf(epoch, id int) string { return "seat " + strconv.Itoa(id) + " of " + strconv.Itoa(epoch) }

// made keeps roots and signatures, each of which takes a while to make.
var made sync.Map

func kept(name string, make func() string) string {
	if s, ok := made.Load(name); ok {
		return s.(string)
	}
	s := make()
	made.Store(name, s)
	return s
}

// paper answers a paper whose seats can sign.
func paper(epoch int, list ...int) api.Paper {
	p := api.Paper{Epoch: epoch}
	for _, id := range list {
		root := kept(seedOf(epoch, id), func() string {
			root, _ := grove.Root(seedOf(epoch, id), height)
			return root
		})
		p.Seats = append(p.Seats, api.Seat{ID: id, Root: root})
	}
	return p
}

// sigOf answers what the seat of that epoch signs of the text by the first leaf of a grove of that height.
func sigOf(epoch, id, h int, text string) string {
	return kept(seedOf(epoch, id)+" of height "+strconv.Itoa(h)+" signs "+text, func() string {
		s, _ := grove.New(seedOf(epoch, id), h)
		sig, _ := s.Sign(text)
		return sig
	})
}

// signed answers the signatures of the paper's bytes by these seats of the old paper, in this order.
func signed(old, next api.Paper, list ...int) []papers.Signed {
	var sigs []papers.Signed
	for _, id := range list {
		sigs = append(sigs, papers.Signed{ID: id, Sig: sigOf(old.Epoch, id, height, modelBytes(next))})
	}
	return sigs
}

// cert answers the certificate that these seats of the old paper signed.
func cert(old, next api.Paper, list ...int) string {
	return modelCert(modelBytes(next), signed(old, next, list...))
}

func idsOf(p api.Paper) []int {
	var list []int
	for _, seat := range p.Seats {
		list = append(list, seat.ID)
	}
	return list
}

// copied answers the paper in memory of its own.
func copied(p api.Paper) api.Paper {
	return api.Paper{Epoch: p.Epoch, Seats: slices.Clone(p.Seats)}
}

func samePaper(a, b api.Paper) bool {
	return a.Epoch == b.Epoch && slices.Equal(a.Seats, b.Seats)
}

// spoil changes all of the paper's seats, so that whoever shares them shows it.
func spoil(p api.Paper) {
	for i := range p.Seats {
		p.Seats[i] = api.Seat{ID: -7, Root: "spoilt"}
	}
}

func expectBytes(t *testing.T, p api.Paper, want string, wantErr api.Errno) {
	t.Helper()
	if got, e := papers.Bytes(p); got != want || e != wantErr {
		t.Errorf("Bytes(%d, %v): %q %d, not %q %d", p.Epoch, idsOf(p), got, e, want, wantErr)
	}
}

func expectRead(t *testing.T, text string, want api.Paper, wantErr api.Errno) {
	t.Helper()
	if got, e := papers.Read(text); e != wantErr || !samePaper(got, want) {
		t.Errorf("Read(%q): %v %d, not %v %d", text, got, e, want, wantErr)
	}
}

func expectCertify(t *testing.T, p api.Paper, sigs []papers.Signed, want string, wantErr api.Errno) {
	t.Helper()
	if got, e := papers.Certify(p, sigs); got != want || e != wantErr {
		t.Errorf("Certify(%d, %v, %d signatures): %d bytes %d, not %d bytes %d", p.Epoch, idsOf(p), len(sigs), len(got), e, len(want), wantErr)
	}
}

func expectCheck(t *testing.T, old api.Paper, cert string, want api.Paper, wantErr api.Errno) {
	t.Helper()
	if got, e := papers.Check(old, cert); e != wantErr || !samePaper(got, want) {
		t.Errorf("Check(%d, %v, %d bytes): %d %v %d, not %d %v %d", old.Epoch, idsOf(old), len(cert), got.Epoch, idsOf(got), e, want.Epoch, idsOf(want), wantErr)
	}
}

// expectRefused expects this error, and no paper.
func expectRefused(t *testing.T, old api.Paper, cert string, wantErr api.Errno) {
	t.Helper()
	expectCheck(t, old, cert, api.Paper{}, wantErr)
}

func expectWalk(t *testing.T, from api.Paper, chain []string, want api.Paper, wantCount int, wantErr api.Errno) {
	t.Helper()
	if got, n, e := papers.Walk(from, chain); e != wantErr || n != wantCount || !samePaper(got, want) {
		t.Errorf("Walk(%d, %v, %d certificates): %d %v %d %d, not %d %v %d %d", from.Epoch, idsOf(from), len(chain), got.Epoch, idsOf(got), n, e, want.Epoch, idsOf(want), wantCount, wantErr)
	}
}
