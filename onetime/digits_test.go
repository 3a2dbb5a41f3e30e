package onetime

import (
	"slices"
	"strings"
	"testing"
)

// Digests that no known text has, which is why these are asked from inside: halves that are 0 or 15 throughout.
func TestDigitsOfDigestsAtTheEdge(t *testing.T) {
	edges := []struct {
		bytes        string
		upper, lower int
		lack         []int
	}{
		{"\x00", 0, 0, []int{1, 14, 0}},
		{"\x0f", 0, 15, []int{0, 15, 0}},
		{"\xf0", 15, 0, []int{0, 15, 0}},
		{"\xff", 15, 15, []int{0, 0, 0}},
		{"\x10", 1, 0, []int{1, 13, 0}},
		{"\x01", 0, 1, []int{1, 13, 0}},
		{"\xef", 14, 15, []int{0, 1, 0}},
		{"\xfe", 15, 14, []int{0, 1, 0}},
		{"\x80", 8, 0, []int{1, 6, 0}},
		{"\x7f", 7, 15, []int{0, 8, 0}},
	}
	for _, edge := range edges {
		want := append(slices.Repeat([]int{edge.upper, edge.lower}, 16), edge.lack...)
		for _, rest := range []string{"\x00", "\xff", "\x5a"} {
			digest := strings.Repeat(edge.bytes, 16) + strings.Repeat(rest, 16)
			if got := digitsOf(digest); !slices.Equal(got, want) {
				t.Errorf("%x: %v, not %v", digest, got, want)
			}
		}
	}
}

// Every sum that the first digits can have, with what the last three tell of it written to the base 16 by hand.
func TestDigitsTellEveryLack(t *testing.T) {
	for lack := range 481 {
		digest := make([]byte, 32)
		left := 480 - lack
		for i := range 32 {
			digit := min(left, 15)
			left -= digit
			digest[i/2] = digest[i/2]<<4 | byte(digit)
		}
		got := digitsOf(string(digest))
		want := []int{lack >> 8, lack >> 4 & 15, lack & 15}
		if len(got) != 35 || !slices.Equal(got[32:], want) {
			t.Fatalf("%d: %v, not %v at the end", lack, got, want)
		}
	}
}

// A digest's byte counts at its own place, and the last 16 bytes count nowhere.
func TestDigitsOfOneByte(t *testing.T) {
	for place := range 32 {
		digest := make([]byte, 32)
		digest[place] = 0x9c
		want := make([]int, 32, 35)
		lack := []int{1, 14, 0}
		if place < 16 {
			want[2*place], want[2*place+1] = 9, 12
			lack = []int{1, 12, 11}
		}
		if got := digitsOf(string(digest)); !slices.Equal(got, append(want, lack...)) {
			t.Errorf("at %d: %v", place, got)
		}
	}
}
