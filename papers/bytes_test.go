package papers_test

import (
	"math"
	"slices"
	"strconv"
	"strings"
	"testing"

	"witan/api"
	"witan/papers"
)

// wrongPapers answers papers that aren't right, by what is wrong.
func wrongPapers() map[string]api.Paper {
	withRoot := func(place int, root string) api.Paper {
		p := plain(5, 0, 3, 7, 15)
		p.Seats[place].Root = root
		return p
	}
	wrong := map[string]api.Paper{
		"zero":                {},
		"no seats":            {Epoch: 5},
		"no seats, of room":   {Epoch: 5, Seats: make([]api.Seat, 0, 8)},
		"one seat":            plain(5, 3),
		"three seats":         plain(5, 0, 1, 2),
		"eleven seats":        plain(5, first(11)...),
		"the last eleven":     plain(5, last(11)...),
		"sixteen seats":       plain(5, first(16)...),
		"falling":             plain(5, 4, 3, 2, 1),
		"not rising, first":   plain(5, 1, 0, 2, 3),
		"not rising, last":    plain(5, 0, 1, 3, 2),
		"ten, not rising":     plain(5, 0, 1, 2, 3, 4, 5, 6, 7, 9, 8),
		"twice, first":        plain(5, 0, 0, 1, 2, 3),
		"twice, last":         plain(5, 0, 1, 2, 15, 15),
		"all the same":        plain(5, 7, 7, 7, 7),
		"seat -1":             plain(5, -1, 0, 1, 2, 3),
		"seat 16":             plain(5, 0, 1, 2, 3, 16),
		"seat 255":            plain(5, 0, 1, 2, 255),
		"seat 256":            plain(5, 0, 1, 2, 256),
		"a client":            plain(5, 0, 1, 2, 101),
		"the least int":       plain(5, math.MinInt, 0, 1, 2, 3),
		"the greatest int":    plain(5, 0, 1, 2, 3, math.MaxInt),
		"very many seats":     {Epoch: 5, Seats: make([]api.Seat, 100000)},
		"four seats, no root": {Epoch: 5, Seats: []api.Seat{{ID: 0}, {ID: 1}, {ID: 2}, {ID: 3}}},
	}
	for name, epoch := range map[string]int{"-1": -1, "65536": 65536, "131071": 131071, "least": math.MinInt, "greatest": math.MaxInt} {
		wrong["epoch "+name] = plain(epoch, 0, 1, 2, 3)
	}
	for place, name := range []string{"first", "second", "third", "fourth"} {
		for _, n := range []int{0, 1, 31, 33, 64, 65568} {
			wrong[name+" root of "+strconv.Itoa(n)] = withRoot(place, text(n))
		}
	}
	return wrong
}

// P8.1: a paper's bytes.

func TestBytesWrittenOut(t *testing.T) {
	a, b, c, d := strings.Repeat("a", 32), strings.Repeat("\x00", 32), strings.Repeat("\xff", 32), strings.Repeat("d\x01", 16)
	p := api.Paper{Epoch: 515, Seats: []api.Seat{{ID: 0, Root: a}, {ID: 3, Root: b}, {ID: 7, Root: c}, {ID: 15, Root: d}}}
	s := "P\x02\x03\x04\x00" + a + "\x03" + b + "\x07" + c + "\x0f" + d
	expectBytes(t, p, s, api.OK)
	expectRead(t, s, p, api.OK)
}

func TestBytesOfEveryNumberOfSeats(t *testing.T) {
	for n := range ids + 1 {
		for _, p := range []api.Paper{plain(9, first(n)...), plain(9, last(n)...)} {
			if n >= least && n <= most {
				expectBytes(t, p, modelBytes(p), api.OK)
				expectRead(t, modelBytes(p), p, api.OK)
				if s, _ := papers.Bytes(p); len(s) != 4+33*n {
					t.Errorf("%d seats: %d bytes", n, len(s))
				}
			} else {
				expectBytes(t, p, "", api.ErrField)
				expectRead(t, modelBytes(p), api.Paper{}, api.ErrBytes)
			}
		}
	}
}

func TestBytesOfEverySetOfSeats(t *testing.T) {
	for set := range 1 << ids {
		var list []int
		for id := range ids {
			if set>>id&1 == 1 {
				list = append(list, id)
			}
		}
		p := plain(set, list...)
		if len(list) < least || len(list) > most {
			expectBytes(t, p, "", api.ErrField)
			continue
		}
		expectBytes(t, p, modelBytes(p), api.OK)
		if set%5 == 0 {
			expectRead(t, modelBytes(p), p, api.OK)
		}
	}
}

// Every pair of IDs beside one another, at each place: they rise or they are wrong.
func TestBytesOfEveryNeighbours(t *testing.T) {
	for place := range 4 {
		for a := -2; a < 18; a++ {
			for b := -2; b < 18; b++ {
				list := []int{1, 4, 7, 10, 13}
				list[place], list[place+1] = a, b
				p := plain(1, list...)
				if modelRight(p) {
					expectBytes(t, p, modelBytes(p), api.OK)
				} else {
					expectBytes(t, p, "", api.ErrField)
				}
			}
		}
	}
}

func TestBytesOfEveryEpoch(t *testing.T) {
	p := plain(0, 0, 5, 10, 15)
	for p.Epoch = -3; p.Epoch < lastEpoch+4; p.Epoch++ {
		if p.Epoch < 0 || p.Epoch > lastEpoch {
			expectBytes(t, p, "", api.ErrField)
			continue
		}
		expectBytes(t, p, modelBytes(p), api.OK)
		if p.Epoch%16 == 0 || p.Epoch == lastEpoch {
			expectRead(t, modelBytes(p), p, api.OK)
		}
	}
}

func TestBytesOfEveryByteInARoot(t *testing.T) {
	for b := range 256 {
		for place := range 4 {
			p := plain(7, 2, 4, 6, 8)
			p.Seats[place].Root = strings.Repeat(string([]byte{byte(b), 'x'}), 16)
			expectBytes(t, p, modelBytes(p), api.OK)
			expectRead(t, modelBytes(p), p, api.OK)
		}
	}
}

// Roots of one seat too long and of another too short: as many bytes as a right paper has, and it isn't right.
func TestRootsThatMakeUpForEachOther(t *testing.T) {
	p := plain(7, 2, 4, 6, 8)
	p.Seats[1].Root, p.Seats[2].Root = text(31), text(33)
	expectBytes(t, p, "", api.ErrField)
}

func TestWrongPapers(t *testing.T) {
	for name, p := range wrongPapers() {
		if modelRight(p) {
			t.Fatal(name)
		}
		if s, e := papers.Bytes(p); s != "" || e != api.ErrField {
			t.Errorf("%s: %q %d", name, s, e)
		}
	}
}

// P8.1: papers read.

func TestReadOfWrongPapersBytes(t *testing.T) {
	for _, p := range []api.Paper{
		plain(5), plain(5, 3), plain(5, 0, 1, 2), plain(5, first(11)...), plain(5, last(11)...), plain(5, first(16)...),
		plain(5, 4, 3, 2, 1), plain(5, 1, 0, 2, 3), plain(5, 0, 1, 3, 2), plain(5, 0, 0, 1, 2, 3), plain(5, 0, 1, 2, 15, 15),
		plain(5, 7, 7, 7, 7), plain(5, 0, 1, 2, 3, 16), plain(5, 0, 1, 2, 255), plain(5, 0, 1, 2, 101), plain(5, make([]int, 255)...),
	} {
		expectRead(t, modelBytes(p), api.Paper{}, api.ErrBytes)
	}
	for _, n := range []int{31, 33} {
		for place := range 4 {
			p := plain(5, 0, 1, 2, 3)
			p.Seats[place].Root = strings.Repeat("\x05", n)
			expectRead(t, modelBytes(p), api.Paper{}, api.ErrBytes)
		}
	}
}

func TestReadOfCutAndLongTexts(t *testing.T) {
	for _, n := range []int{least, 7, most} {
		s := modelBytes(plain(258, last(n)...))
		for end := range s {
			expectRead(t, s[:end], api.Paper{}, api.ErrBytes)
		}
		for _, more := range []string{"\x00", "x", "\x0f", text(32), text(33), s, text(70000)} {
			expectRead(t, s+more, api.Paper{}, api.ErrBytes)
			expectRead(t, more+s, api.Paper{}, api.ErrBytes)
		}
		expectRead(t, s[1:], api.Paper{}, api.ErrBytes)
	}
	for _, s := range []string{"", "P", "P\x00", "P\x00\x00", "P\x00\x00\x00", "P\x00\x00\x04", "x", text(136), strings.Repeat("\x00", 136), strings.Repeat("P", 70000)} {
		expectRead(t, s, api.Paper{}, api.ErrBytes)
	}
}

// Every other byte at each place: the mark and the count have one value, the others may be others.
func TestReadOfEveryOtherByte(t *testing.T) {
	for _, p := range []api.Paper{plain(0, 0, 1, 2, 3), plain(65535, 3, 7, 11, 12, 15), plain(515, first(10)...)} {
		s := modelBytes(p)
		for place := range s {
			for b := range 256 {
				changed := []byte(s)
				changed[place] = byte(b)
				want, wantErr := modelRead(string(changed))
				if (place == 0 || place == 3) && string(changed) != s && wantErr != api.ErrBytes {
					t.Fatal(place, b)
				}
				expectRead(t, string(changed), want, wantErr)
			}
		}
	}
}

// P8.1: a certificate's bytes.

func TestCertifyWrittenOut(t *testing.T) {
	p := plain(515, 0, 3, 7, 15)
	s, _ := papers.Bytes(p)
	expectCertify(t, p, nil, "\x00\x88"+s+"\x00", api.OK)
	expectCertify(t, p, []papers.Signed{}, "\x00\x88"+s+"\x00", api.OK)
	expectCertify(t, p, []papers.Signed{{ID: 3, Sig: "abc"}, {ID: 255, Sig: ""}, {ID: 0, Sig: "\x00\xff"}}, "\x00\x88"+s+"\x03\x03\x00\x03abc\xff\x00\x00\x00\x00\x02\x00\xff", api.OK)
	ten := plain(65535, first(10)...)
	s, _ = papers.Bytes(ten)
	expectCertify(t, ten, []papers.Signed{{ID: 16, Sig: "x"}}, "\x01\x4e"+s+"\x01\x10\x00\x01x", api.OK)
}

func TestCertifyOfEveryNumberOfSignatures(t *testing.T) {
	p := plain(1, 0, 3, 7, 15)
	for _, n := range []int{0, 1, 2, 3, 4, 10, 15, 16, 17, 18, 32, 255, 256, 257, 272, 65536} {
		var sigs []papers.Signed
		for i := range n {
			sigs = append(sigs, papers.Signed{ID: i % 256, Sig: text(i % 50)})
		}
		if n > maxSigs {
			expectCertify(t, p, sigs, "", api.ErrLong)
		} else {
			expectCertify(t, p, sigs, modelCert(modelBytes(p), sigs), api.OK)
		}
	}
}

func TestCertifyOfEverySignersID(t *testing.T) {
	p := plain(1, 0, 3, 7, 15)
	for id := -3; id < 260; id++ {
		sigs := []papers.Signed{{ID: 0, Sig: "a"}, {ID: 0, Sig: "a"}}
		for place := range sigs {
			sigs := slices.Clone(sigs)
			sigs[place].ID = id
			if id < 0 || id > 255 {
				expectCertify(t, p, sigs, "", api.ErrField)
			} else {
				expectCertify(t, p, sigs, modelCert(modelBytes(p), sigs), api.OK)
			}
		}
	}
	for _, id := range []int{65536, 65539, -256, math.MinInt, math.MaxInt} {
		expectCertify(t, p, []papers.Signed{{ID: id, Sig: "a"}}, "", api.ErrField)
	}
}

func TestCertifyOfLongSignatures(t *testing.T) {
	p := plain(1, first(10)...)
	for _, n := range []int{0, 1, 255, 256, 657, maxSig - 1, maxSig, maxSig + 1, maxSig + 2, 2*maxSig + 1, 2*maxSig + 2} {
		for place := range 3 {
			sigs := []papers.Signed{{ID: 1, Sig: "a"}, {ID: 2, Sig: "b"}, {ID: 3, Sig: "c"}}
			sigs[place].Sig = text(n)
			if n > maxSig {
				expectCertify(t, p, sigs, "", api.ErrField)
			} else {
				expectCertify(t, p, sigs, modelCert(modelBytes(p), sigs), api.OK)
			}
		}
	}
	var all []papers.Signed
	for id := range maxSigs {
		all = append(all, papers.Signed{ID: id + 240, Sig: text(maxSig)})
	}
	expectCertify(t, p, all, modelCert(modelBytes(p), all), api.OK)
	expectCertify(t, p, append(all, all[0]), "", api.ErrLong)
}

// Signatures that no Check takes are written even so.
func TestCertifyAsksNoSignature(t *testing.T) {
	p := plain(0, 0, 3, 7, 15)
	for _, list := range [][]int{{7, 3, 0}, {3, 3, 3}, {1, 2}, {200, 100, 16}, {15}} {
		var sigs []papers.Signed
		for _, id := range list {
			sigs = append(sigs, papers.Signed{ID: id, Sig: text(id)})
		}
		expectCertify(t, p, sigs, modelCert(modelBytes(p), sigs), api.OK)
	}
}

func TestCertifyOfWrongPapers(t *testing.T) {
	for name, p := range wrongPapers() {
		for _, n := range []int{0, 3, 17} {
			if s, e := papers.Certify(p, make([]papers.Signed, n)); s != "" || e != api.ErrField {
				t.Errorf("%s, %d signatures: %d bytes, %d", name, n, len(s), e)
			}
		}
	}
}

// R1: a wrong field counts before too many signatures, wherever it stands.
func TestCertifyOfSeveralErrors(t *testing.T) {
	p := plain(1, 0, 3, 7, 15)
	for _, n := range []int{17, 18, 300} {
		for _, place := range []int{0, 1, 15, 16, n - 1} {
			for _, wrong := range []papers.Signed{{ID: -1, Sig: "a"}, {ID: 256, Sig: "a"}, {ID: 1, Sig: text(maxSig + 1)}} {
				sigs := make([]papers.Signed, n)
				expectCertify(t, p, sigs, "", api.ErrLong)
				sigs[place] = wrong
				expectCertify(t, p, sigs, "", api.ErrField)
			}
		}
	}
}

// R4: what is handed in stays as it was, and what is answered is nobody else's.
func TestBytesAndReadShareNothing(t *testing.T) {
	p := plain(3, 0, 3, 7, 15)
	before := copied(p)
	sigs := []papers.Signed{{ID: 7, Sig: "b"}, {ID: 3, Sig: "a"}}
	s, _ := papers.Bytes(p)
	c, _ := papers.Certify(p, sigs)
	if !samePaper(p, before) || !slices.Equal(sigs, []papers.Signed{{ID: 7, Sig: "b"}, {ID: 3, Sig: "a"}}) {
		t.Errorf("%v %v", p, sigs)
	}
	one, _ := papers.Read(s)
	other, _ := papers.Read(s)
	spoil(p)
	if !samePaper(one, before) || s != modelBytes(before) || c != modelCert(s, sigs) {
		t.Errorf("%v", one)
	}
	spoil(one)
	if !samePaper(other, before) {
		t.Errorf("%v", other)
	}
	expectRead(t, s, before, api.OK)
}

func FuzzRead(f *testing.F) {
	f.Add("")
	f.Add(modelBytes(plain(0, 0, 1, 2, 3)))
	f.Add(modelBytes(plain(65535, last(10)...)))
	f.Add(modelBytes(plain(7, 0, 1, 2)))
	f.Add(modelBytes(plain(7, 0, 1, 2, 2)))
	f.Add(modelBytes(plain(7, 0, 1, 2, 16)) + "x")
	f.Fuzz(func(t *testing.T, s string) {
		want, wantErr := modelRead(s)
		expectRead(t, s, want, wantErr)
		if wantErr == api.OK {
			expectBytes(t, want, s, api.OK)
		}
	})
}
