package reals_test

import (
	"math"
	"math/big"
	"slices"
	"strconv"
	"strings"
	"testing"

	"witan/reals"
)

// The bits of the edges, as the format writes them.
const (
	plusNought    uint64 = 0x0000000000000000
	minusNought   uint64 = 0x8000000000000000
	least         uint64 = 0x0000000000000001
	belowNormal   uint64 = 0x000FFFFFFFFFFFFF
	leastNormal   uint64 = 0x0010000000000000
	one           uint64 = 0x3FF0000000000000
	greatest      uint64 = 0x7FEFFFFFFFFFFFFF
	plusInfinity  uint64 = 0x7FF0000000000000
	minusInfinity uint64 = 0xFFF0000000000000
	theNaN        uint64 = 0x7FF8000000000000
	sign          uint64 = 1 << 63
	fraction      uint64 = 1<<52 - 1
)

func edges() []uint64 {
	above := []uint64{
		plusNought, least, least + 1, belowNormal - 1, belowNormal, leastNormal, leastNormal + 1,
		one - 1, one, one + 1, 0x3FB999999999999A, 0x4340000000000000, 0x4340000000000001,
		0x7FDFFFFFFFFFFFFF, 0x7FE0000000000000, greatest - 1, greatest, plusInfinity,
	}
	all := slices.Clone(above)
	for _, n := range above {
		all = append(all, n|sign)
	}
	return append(all, theNaN)
}

// otherNaNs are rows of bits that are no real's: those beside the edges of what is a NaN, with either sign.
func otherNaNs() []uint64 {
	return []uint64{
		plusInfinity + 1, plusInfinity + 2, theNaN - 1, theNaN + 1, 1<<63 - 1,
		minusInfinity + 1, theNaN | sign, theNaN | sign - 1, (theNaN | sign) + 1, 1<<64 - 1, 0x7FF4000000000000,
	}
}

// scattered are bits all over the format, always the same ones.
func scattered(count int) []uint64 {
	var all []uint64
	n := uint64(20261117)
	for range count {
		n ^= n << 13
		n ^= n >> 7
		n ^= n << 17
		all = append(all, n*2685821657736338717)
	}
	return all
}

// near are reals whose sums are rounded: of sizes at most some fifty powers of two apart.
func near(count int) []uint64 {
	var all []uint64
	for i, n := range scattered(count) {
		power := uint64(1000 + i%56)
		all = append(all, n&(sign|fraction)|power<<52)
	}
	return all
}

func sample() []uint64 {
	all := slices.Concat(edges(), otherNaNs(), scattered(300), near(100))
	for i := range 64 {
		all = append(all, 1<<i, 1<<i-1, ^(1 << i), sign|1<<i)
	}
	return all
}

func ofBits(n uint64) float64 { return math.Float64frombits(n) }

// isNaN asks the bits alone.
func isNaN(n uint64) bool { return n&plusInfinity == plusInfinity && n&fraction != 0 }

// bitsOf is the chapter's rule for bits once more, of the bits that were handed in.
func bitsOf(n uint64) uint64 {
	if isNaN(n) {
		return theNaN
	}
	return n
}

func is(x float64, n uint64) bool { return math.Float64bits(x) == n }

// parts: a finite real's size is size times two to the power, in units of the least real.
func parts(n uint64) (size uint64, power uint) {
	exponent := uint(n >> 52 & 0x7FF)
	if exponent == 0 {
		return n & fraction, 0
	}
	return n&fraction | 1<<52, exponent - 1
}

// exact is a finite real as a number of least reals, so that sums of them can be worked out whole.
func exact(n uint64) *big.Int {
	size, power := parts(n)
	x := new(big.Int).SetUint64(size)
	x.Lsh(x, power)
	if n&sign != 0 {
		x.Neg(x)
	}
	return x
}

// rounded is the real that is nearest to so many least reals, of two that are as near the even one.
func rounded(x *big.Int) uint64 {
	size := new(big.Int).Abs(x)
	power := max(size.BitLen()-53, 0)
	kept := new(big.Int).Rsh(size, uint(power))
	rest := new(big.Int).Sub(size, new(big.Int).Lsh(kept, uint(power)))
	n := kept.Uint64()
	if power > 0 {
		half := new(big.Int).Lsh(big.NewInt(1), uint(power-1))
		if c := rest.Cmp(half); c > 0 || c == 0 && n%2 == 1 {
			n++
		}
	}
	// Above the least normal one the first bit isn't written, and raises the exponent by one as it is added.
	n = min(n+uint64(power)<<52, plusInfinity)
	if x.Sign() < 0 {
		n |= sign
	}
	return n
}

// sumOf is the chapter's rule for sums once more, with whole numbers alone.
func sumOf(a, b uint64) uint64 {
	endless := func(n uint64) bool { return n&^sign == plusInfinity }
	switch {
	case isNaN(a) || isNaN(b) || endless(a) && endless(b) && a != b:
		return theNaN
	case endless(a):
		return a
	case endless(b):
		return b
	case a == minusNought && b == minusNought:
		return minusNought
	}
	return rounded(new(big.Int).Add(exact(a), exact(b)))
}

// kind is where a real stands by the chapter's words; within one kind the size tells.
func kind(n uint64) int {
	switch n = bitsOf(n); {
	case n == minusInfinity:
		return 0
	case n == minusNought:
		return 2
	case n == plusNought:
		return 3
	case n == plusInfinity:
		return 5
	case n == theNaN:
		return 6
	case n&sign != 0:
		return 1
	}
	return 4
}

// compared is the order once more: below 0, if a stands ahead of b, above 0, if b does.
func compared(a, b uint64) int {
	if k := kind(a) - kind(b); k != 0 || kind(a) != 1 && kind(a) != 4 {
		return k
	}
	return exact(a).Cmp(exact(b))
}

func TestExamples(t *testing.T) {
	if n := reals.Bits(math.Copysign(0, -1)); n != 0x8000000000000000 {
		t.Errorf("bits of -0: %X", n)
	}
	if x := reals.Add(math.Inf(1), math.Inf(-1)); !is(x, theNaN) {
		t.Errorf("an infinity and its opposite: %X", math.Float64bits(x))
	}
	if x := reals.Most(math.NaN(), 1); !is(x, theNaN) {
		t.Errorf("the most of NaN and 1: %X", math.Float64bits(x))
	}
	if x := reals.Most(math.Copysign(0, -1), 0); !is(x, plusNought) {
		t.Errorf("the most of -0 and +0: %X", math.Float64bits(x))
	}
	if s := reals.Text(0.1); s != "0.1" {
		t.Errorf("the text of 0.1: %q", s)
	}
	if x, ok := reals.Read("0.10"); ok || !is(x, 0) {
		t.Error("0.10 is no real's text", x, ok)
	}
}

func TestBitsAndCanon(t *testing.T) {
	for _, n := range sample() {
		want := bitsOf(n)
		if got := reals.Bits(ofBits(n)); got != want {
			t.Errorf("Bits of %X: %X", n, got)
		}
		if got := reals.Canon(ofBits(n)); !is(got, want) {
			t.Errorf("Canon of %X: %X", n, math.Float64bits(got))
		}
	}
}

func TestFrom(t *testing.T) {
	for _, n := range sample() {
		x, ok := reals.From(n)
		switch {
		case bitsOf(n) != n && (ok || !is(x, 0)):
			t.Errorf("From takes %X: %X %v", n, math.Float64bits(x), ok)
		case bitsOf(n) == n && (!ok || !is(x, n)):
			t.Errorf("From of %X: %X %v", n, math.Float64bits(x), ok)
		}
	}
	for _, n := range otherNaNs() {
		if _, ok := reals.From(n); ok {
			t.Errorf("From takes another NaN's bits: %X", n)
		}
	}
}

func TestSame(t *testing.T) {
	all := sample()
	for _, a := range all {
		for _, b := range all {
			if got := reals.Same(ofBits(a), ofBits(b)); got != (bitsOf(a) == bitsOf(b)) {
				t.Errorf("Same of %X and %X: %v", a, b, got)
			}
		}
	}
}

func TestLessAndMost(t *testing.T) {
	all := sample()
	for _, a := range all {
		for _, b := range all {
			c := compared(a, b)
			if got := reals.Less(ofBits(a), ofBits(b)); got != (c < 0) {
				t.Errorf("Less of %X and %X: %v", a, b, got)
			}
			want := bitsOf(a)
			if c < 0 {
				want = bitsOf(b)
			}
			if got := reals.Most(ofBits(a), ofBits(b)); !is(got, want) {
				t.Errorf("Most of %X and %X: %X", a, b, math.Float64bits(got))
			}
		}
	}
}

// TestOrderRow has the chapter's order written out, so that it leans on no rule.
func TestOrderRow(t *testing.T) {
	row := []uint64{
		minusInfinity, greatest | sign, 0xC000000000000000, one | sign, leastNormal | sign, belowNormal | sign, least | sign, minusNought,
		plusNought, least, belowNormal, leastNormal, one, 0x4000000000000000, greatest, plusInfinity, theNaN,
	}
	for i, a := range row {
		for k, b := range row {
			if reals.Less(ofBits(a), ofBits(b)) != (i < k) || reals.Same(ofBits(a), ofBits(b)) != (i == k) || !is(reals.Most(ofBits(a), ofBits(b)), row[max(i, k)]) {
				t.Errorf("%X and %X stand wrong", a, b)
			}
		}
	}
}

func TestJustOneHolds(t *testing.T) {
	all := sample()
	for _, a := range all {
		for _, b := range all {
			held := 0
			for _, h := range []bool{reals.Less(ofBits(a), ofBits(b)), reals.Less(ofBits(b), ofBits(a)), reals.Same(ofBits(a), ofBits(b))} {
				if h {
					held++
				}
			}
			if held != 1 {
				t.Errorf("%X and %X: %d of the three hold", a, b, held)
			}
		}
	}
}

func TestOrderIsOneFromEndToEnd(t *testing.T) {
	all := slices.Concat(edges(), otherNaNs(), scattered(40))
	for _, a := range all {
		for _, b := range all {
			for _, c := range all {
				if reals.Less(ofBits(a), ofBits(b)) && reals.Less(ofBits(b), ofBits(c)) && !reals.Less(ofBits(a), ofBits(c)) {
					t.Errorf("%X, %X, %X: the order breaks", a, b, c)
				}
			}
		}
	}
}

func TestAddRow(t *testing.T) {
	rows := []struct{ a, b, sum uint64 }{
		{0x3FF8000000000000, 0x4000000000000000, 0x400C000000000000}, // 1.5 and 2
		{plusNought, plusNought, plusNought},
		{plusNought, minusNought, plusNought},
		{minusNought, plusNought, plusNought},
		{minusNought, minusNought, minusNought},
		{one, one | sign, plusNought},
		{least, least | sign, plusNought},
		{least, least, 2},
		{belowNormal, least, leastNormal},
		{leastNormal, least | sign, belowNormal},
		{one, 0x3CA0000000000000, one},                               // half a step: to the even one below
		{one + 1, 0x3CA0000000000000, one + 2},                       // half a step: to the even one above
		{one, 0x3CA0000000000001, one + 1},                           // just above half a step
		{0x4340000000000000, one, 0x4340000000000000},                // 2^53 and 1
		{0x4340000000000001, one, 0x4340000000000002},                // 2^53 + 2 and 1
		{0x3FB999999999999A, 0x3FC999999999999A, 0x3FD3333333333334}, // 0.1 and 0.2
		{greatest, greatest, plusInfinity},
		{greatest | sign, greatest | sign, minusInfinity},
		{greatest, 0x7C90000000000000, plusInfinity}, // half of its step: the even one is past it
		{greatest, 0x7C8FFFFFFFFFFFFF, greatest},     // just below that
		{greatest, one, greatest},
		{greatest, greatest | sign, plusNought},
		{plusInfinity, plusInfinity, plusInfinity},
		{plusInfinity, greatest | sign, plusInfinity},
		{minusInfinity, greatest, minusInfinity},
		{plusInfinity, minusInfinity, theNaN},
		{minusInfinity, plusInfinity, theNaN},
		{theNaN, one, theNaN},
		{one, theNaN, theNaN},
		{theNaN, minusInfinity, theNaN},
		{1<<64 - 1, plusInfinity + 1, theNaN},
		{plusInfinity + 1, one, theNaN},
		{theNaN | sign, theNaN | sign, theNaN},
	}
	for _, r := range rows {
		if got := reals.Add(ofBits(r.a), ofBits(r.b)); !is(got, r.sum) {
			t.Errorf("%X and %X: %X, not %X", r.a, r.b, math.Float64bits(got), r.sum)
		}
	}
}

func TestAddAgainstWholeNumbers(t *testing.T) {
	check := func(all []uint64) {
		for _, a := range all {
			for _, b := range all {
				if got, want := reals.Add(ofBits(a), ofBits(b)), sumOf(a, b); !is(got, want) {
					t.Errorf("%X and %X: %X, not %X", a, b, math.Float64bits(got), want)
				}
			}
		}
	}
	check(slices.Concat(edges(), otherNaNs(), scattered(150)))
	check(near(400))
}

// TestAddOfProduct: the sum is of reals, so that a product that is handed in has been rounded already, even where the machine can multiply and add at once.
func TestAddOfProduct(t *testing.T) {
	for _, n := range near(100) {
		a := ofBits(n)
		product := float64(a * a)
		if x := reals.Add(a*a, -product); !is(x, plusNought) {
			t.Errorf("the product %X by itself, less itself: %X", n, math.Float64bits(x))
		}
	}
}

func texts() map[string]uint64 {
	return map[string]uint64{
		"NaN": theNaN, "+Inf": plusInfinity, "-Inf": minusInfinity, "0": plusNought, "-0": minusNought,
		"1": one, "-1": one | sign, "0.1": 0x3FB999999999999A, "-0.1": 0xBFB999999999999A, "0.5": 0x3FE0000000000000,
		"0.30000000000000004": 0x3FD3333333333334, "5e-324": least, "-5e-324": least | sign,
		"2.225073858507201e-308": belowNormal, "2.2250738585072014e-308": leastNormal, "-2.2250738585072014e-308": leastNormal | sign,
		"1.7976931348623157e+308": greatest, "-1.7976931348623157e+308": greatest | sign,
		"100000": 0x40F86A0000000000, "999999": 0x412E847E00000000, "1e+06": 0x412E848000000000, "1.000001e+06": 0x412E848200000000,
		"0.0001": 0x3F1A36E2EB1C432D, "1e-05": 0x3EE4F8B588E368F1, "1e+21": 0x444B1AE4D6E2EF50, "1e+23": 0x44B52D02C7E14AF6,
		"9.007199254740992e+15": 0x4340000000000000,
	}
}

func TestTexts(t *testing.T) {
	for s, n := range texts() {
		if got := reals.Text(ofBits(n)); got != s {
			t.Errorf("Text of %X: %q, not %q", n, got, s)
		}
		if x, ok := reals.Read(s); !ok || !is(x, n) {
			t.Errorf("Read of %q: %X %v", s, math.Float64bits(x), ok)
		}
	}
	for _, n := range otherNaNs() {
		if got := reals.Text(ofBits(n)); got != "NaN" {
			t.Errorf("Text of %X: %q", n, got)
		}
	}
}

// TestForm: the form is that of the library's call, which the chapter names.
func TestForm(t *testing.T) {
	for _, n := range sample() {
		if got, want := reals.Text(ofBits(n)), strconv.FormatFloat(ofBits(n), 'g', -1, 64); got != want {
			t.Errorf("Text of %X: %q, not %q", n, got, want)
		}
	}
}

func TestNoTexts(t *testing.T) {
	none := []string{
		"", " ", "0.10", "+1", "+0", "-", "+", ".", "e", "inf", "Inf", "INF", "+inf", "-inf", "+infinity", "-Infinity", "infinity",
		"nan", "NAN", "Nan", "+NaN", "-NaN", "NaN ", " NaN", "NaN\x00", "1e5", "1e05", "1e+5", "1e+05", "100000.0", "1e6", "1e+6", "1E+06", "1000000", "1e21",
		"00", "01", "-00", "0.0", "-0.0", "0e+00", "0e+0", ".5", "5.", "1.", "0x1p+00", "0x1", "1_0", "1 ", " 1", "1\n", "1,5", "one",
		"1e+400", "-1e+400", "1e-400", "1.7976931348623159e+308", "4e-324", "3e-324", "2e-324", "0.00001", "0.1e+00", "1.0e-05", "1e-5",
		"0.30000000000000005", "0.100000000000000005", "9007199254740992", "9007199254740993", "\xff", "\x00", "١", strings.Repeat("0", 70000), "1" + strings.Repeat("0", 400),
	}
	for _, s := range none {
		if x, ok := reals.Read(s); ok || !is(x, 0) {
			t.Errorf("Read takes %.40q: %X %v", s, math.Float64bits(x), ok)
		}
	}
}

// reach: between these two, in quarters of the least real, a decimal reads as the finite n above nought; on them, if n's bits are even.
func reach(n uint64) (from, to *big.Int) {
	quarters := func(n uint64) *big.Int { return new(big.Int).Lsh(exact(n), 2) }
	middle := func(a, b *big.Int) *big.Int { return a.Rsh(a.Add(a, b), 1) }
	here := quarters(n)
	next := new(big.Int).Lsh(big.NewInt(1), 1026+1074)
	if n != greatest {
		next = quarters(n + 1)
	}
	return middle(quarters(n-1), here), middle(next, new(big.Int).Lsh(exact(n), 2))
}

// within tells if digits times ten to the power reads as n.
func within(n uint64, digits *big.Int, power int) bool {
	from, to := reach(n)
	unit := new(big.Rat).SetFrac(big.NewInt(1), new(big.Int).Lsh(big.NewInt(1), 1076))
	at := new(big.Rat).SetInt(digits)
	ten := new(big.Rat).SetInt(new(big.Int).Exp(big.NewInt(10), big.NewInt(int64(max(power, -power))), nil))
	if power < 0 {
		ten.Inv(ten)
	}
	at.Quo(at.Mul(at, ten), unit)
	low, high := at.Cmp(new(big.Rat).SetInt(from)), at.Cmp(new(big.Rat).SetInt(to))
	return low > 0 && high < 0 || n%2 == 0 && (low == 0 || high == 0)
}

// digitsOf are the digits of a text without the noughts around them, and the power of ten of the last one.
func digitsOf(t *testing.T, s string) (*big.Int, int) {
	t.Helper()
	size, power := s, 0
	if i := strings.IndexByte(s, 'e'); i >= 0 {
		n, ok := new(big.Int).SetString(s[i+1:], 10)
		if !ok {
			t.Fatalf("%q has no exponent", s)
		}
		size, power = s[:i], int(n.Int64())
	}
	if i := strings.IndexByte(size, '.'); i >= 0 {
		power -= len(size) - i - 1
		size = size[:i] + size[i+1:]
	}
	for strings.HasSuffix(size, "0") {
		size, power = size[:len(size)-1], power+1
	}
	n, ok := new(big.Int).SetString(size, 10)
	if !ok {
		t.Fatalf("%q has no digits", s)
	}
	return n, power
}

func TestTextIsShortest(t *testing.T) {
	for _, n := range sample() {
		n &^= sign
		if n == 0 || n >= plusInfinity {
			continue
		}
		s := reals.Text(ofBits(n))
		digits, power := digitsOf(t, s)
		if !within(n, digits, power) {
			t.Errorf("%s doesn't read as %X", s, n)
		}
		fewer := new(big.Int).Quo(digits, big.NewInt(10))
		for i := int64(0); i < 2; i++ {
			if d := new(big.Int).Add(fewer, big.NewInt(i)); d.Sign() > 0 && within(n, d, power+1) {
				t.Errorf("%s isn't the shortest for %X: %se%d reads back too", s, n, d, power+1)
			}
		}
	}
}

func TestToldIsReadAgain(t *testing.T) {
	for _, n := range sample() {
		x := ofBits(n)
		if y, ok := reals.From(reals.Bits(x)); !ok || !is(y, bitsOf(n)) || !reals.Same(x, y) {
			t.Errorf("%X by its bits: %X %v", n, math.Float64bits(y), ok)
		}
		if y, ok := reals.Read(reals.Text(x)); !ok || !is(y, bitsOf(n)) || !reals.Same(x, y) {
			t.Errorf("%X by its text %q: %X %v", n, reals.Text(x), math.Float64bits(y), ok)
		}
	}
}

func TestNoTwoHaveOneText(t *testing.T) {
	owners := map[string]uint64{}
	for _, n := range sample() {
		for _, m := range []uint64{n - 1, n, n + 1} {
			s := reals.Text(ofBits(m))
			if other, ok := owners[s]; ok && other != bitsOf(m) {
				t.Errorf("%q is the text of %X and of %X", s, other, m)
			}
			owners[s] = bitsOf(m)
		}
	}
}

func FuzzRead(f *testing.F) {
	for s := range texts() {
		f.Add(s)
	}
	f.Add("0.10")
	f.Fuzz(func(t *testing.T, s string) {
		x, ok := reals.Read(s)
		if ok && (reals.Text(x) != s || !is(x, bitsOf(math.Float64bits(x)))) || !ok && !is(x, 0) {
			t.Errorf("Read of %q: %X %v", s, math.Float64bits(x), ok)
		}
	})
}

func FuzzPairs(f *testing.F) {
	f.Add(one, greatest)
	f.Add(plusInfinity, minusInfinity)
	f.Add(theNaN+1, minusNought)
	f.Fuzz(func(t *testing.T, a, b uint64) {
		if x := reals.Add(ofBits(a), ofBits(b)); !is(x, sumOf(a, b)) {
			t.Errorf("%X and %X: %X", a, b, math.Float64bits(x))
		}
		if c := compared(a, b); reals.Less(ofBits(a), ofBits(b)) != (c < 0) || reals.Same(ofBits(a), ofBits(b)) != (c == 0) {
			t.Errorf("%X and %X stand wrong", a, b)
		}
	})
}
