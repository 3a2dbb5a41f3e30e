package terms_test

import (
	"math"
	"math/bits"
	"slices"
	"strconv"
	"testing"

	"witan/api"
	"witan/terms"
)

// P9.1: what stands in a book.

func TestNothingStandsInANewBook(t *testing.T) {
	b := terms.New()
	if b == nil {
		t.Fatal("New answers no book")
	}
	expectStand(t, b, nil, append(by("x", 0, 1, 15, 101), api.Sig{}, api.Sig{By: -1}))
}

func TestNoteOfNoneOneAndSeveral(t *testing.T) {
	b := terms.New()
	b.Note()
	b.Note([]api.Sig{}...)
	b.Note(nil...)
	expectStand(t, b, nil, append(by("x", 1), api.Sig{}))
	b.Note(api.Sig{By: 1, Text: "x"})
	expectStand(t, b, by("x", 1), by("x", 2, 3))
	b.Note(api.Sig{By: 2, Text: "x"}, api.Sig{By: 3, Text: "x"})
	expectStand(t, b, by("x", 1, 2, 3), by("y", 1, 2, 3))
	b.Note(by("y", 1, 2, 3)...)
	expectStand(t, b, append(by("x", 1, 2, 3), by("y", 1, 2, 3)...), by("x", 4))
	b.Note()
	expectStand(t, b, append(by("x", 1, 2, 3), by("y", 1, 2, 3)...), by("x", 4))
}

func TestOneThingNotedOnceAndAgain(t *testing.T) {
	b := terms.New()
	for range 5 {
		b.Note(by("x", 1)...)
		expectStand(t, b, by("x", 1), by("x", 2))
	}
	b.Note(by("x", 1, 2, 1, 2, 2)...)
	expectStand(t, b, by("x", 1, 2), by("x", 3))
	b.Note(slices.Repeat(by("x", 2, 7), 100000)...)
	expectStand(t, b, by("x", 1, 2, 7), by("x", 3))
}

// Signatures are alike by whose they are and by the whole text.
func TestUnlikeSignatures(t *testing.T) {
	var all []api.Sig
	for _, text := range unlikeTexts() {
		all = append(all, by(text, 0, 1, 11, 15, 101)...)
	}
	for _, id := range oddNumbers() {
		if id != 101 {
			all = append(all, by("x", id)...)
		}
	}
	all = append(all, by("1x", 1)...) // 1 and "1x", 11 and "x" have the same signs behind one another
	b := terms.New()
	for i, s := range all {
		expectStand(t, b, all[:i], all[i:])
		b.Note(s)
	}
	expectStand(t, b, all, nil)
}

func TestTextsOfOtherMemoryStand(t *testing.T) {
	bytes := []byte("one text")
	b := bookOf(api.Sig{By: 1, Text: string(bytes)})
	bytes[0] = 'x'
	expectStand(t, b, []api.Sig{{By: 1, Text: string([]byte("one text"))}}, []api.Sig{{By: 1, Text: string(bytes)}})
}

func TestMany(t *testing.T) {
	b := terms.New()
	var all []api.Sig
	for i := range 20000 {
		all = append(all, api.Sig{By: i % 16, Text: strconv.Itoa(i / 16)})
	}
	b.Note(all[:10000]...)
	expectStand(t, b, all[:10000], all[10000:])
	b.Note(all[5000:]...)
	expectStand(t, b, all, nil)
}

// Every row of four notes out of three signatures, noted one by one and all at once.
func TestEveryShortRowOfNotes(t *testing.T) {
	choices := append(by("x", 1, 2), by("y", 1)...)
	rows(choices, 4, func(row []api.Sig) {
		one := terms.New()
		var in, out []api.Sig
		for _, s := range row {
			one.Note(s)
			if !slices.Contains(in, s) {
				in = append(in, s)
			}
		}
		for _, s := range choices {
			if !slices.Contains(in, s) {
				out = append(out, s)
			}
		}
		expectStand(t, one, in, out)
		expectStand(t, bookOf(row...), in, out)
	})
}

func TestTwoBooksAreApart(t *testing.T) {
	one, other := bookOf(by("x", 1)...), terms.New()
	expectStand(t, one, by("x", 1), by("x", 2))
	expectStand(t, other, nil, by("x", 1, 2))
	other.Note(by("x", 2)...)
	expectStand(t, one, by("x", 1), by("x", 2))
	expectStand(t, other, by("x", 2), by("x", 1))
}

// P9.1, R4: a list that was noted is neither changed nor kept.
func TestANotedListIsTheCallersOwn(t *testing.T) {
	sigs := by("x", 3, 1, 2, 1)
	b := bookOf(sigs...)
	if !slices.Equal(sigs, by("x", 3, 1, 2, 1)) {
		t.Error(sigs)
	}
	for i := range sigs {
		sigs[i] = api.Sig{By: -7, Text: "spoilt"}
	}
	expectStand(t, b, by("x", 1, 2, 3), sigs)
}

// Asking notes nothing.
func TestAskingChangesNothing(t *testing.T) {
	b := bookOf(by("x", 1)...)
	b.Has(api.Sig{By: 2, Text: "x"})
	b.Derivable([]int{2, 3}, by("x", 1, 2, 3))
	b.Derivable(nil, by("x", 1, 2, 3))
	b.Derivable([]int{4}, nil)
	b.Len()
	expectStand(t, b, by("x", 1), by("x", 2, 3, 4))
	expectDerivable(t, b, nil, by("x", 2), false)
}

// P9.1: what bad ones can make.

func TestDerivable(t *testing.T) {
	b := bookOf(append(by("x", 1, 2), by("y", 3)...)...)
	expectDerivable(t, b, nil, nil, true)
	expectDerivable(t, b, []int{}, []api.Sig{}, true)
	expectDerivable(t, b, []int{7}, nil, true)
	expectDerivable(t, b, nil, by("x", 1), true)
	expectDerivable(t, b, nil, by("x", 2, 1, 2), true)
	expectDerivable(t, b, nil, by("x", 3), false)
	expectDerivable(t, b, nil, by("y", 1), false)
	expectDerivable(t, b, []int{3}, by("x", 1, 2, 3), true)
	expectDerivable(t, b, []int{3}, by("anything", 3, 3), true)
	expectDerivable(t, b, []int{3}, by("x", 1, 2, 3, 4), false)
	expectDerivable(t, b, []int{3}, by("x", 4, 1, 2, 3), false)
	expectDerivable(t, b, []int{3, 4}, by("x", 4, 1, 2, 3), true)
	expectDerivable(t, b, []int{4, 3}, by("x", 4, 1, 2, 3), true)
	expectDerivable(t, b, []int{4, 3, 4, 9, -1}, by("y", 4, 3), true)
	expectDerivable(t, b, []int{4, 3, 4, 9, -1}, by("y", 4, 3, 2), false)
}

// Each single one of a list that can't be made spoils it, wherever it stands.
func TestDerivableWithOneThatCannotBeMade(t *testing.T) {
	b := bookOf(by("x", first(10)...)...)
	bad := []int{14, 12}
	good := append(by("x", first(10)...), by("y", 12, 14)...)
	expectDerivable(t, b, bad, good, true)
	for _, wrong := range append(by("y", 0, 9), by("x", 10, 11, 13, 15)...) {
		for i := range len(good) + 1 {
			expectDerivable(t, b, bad, slices.Insert(slices.Clone(good), i, wrong), false)
		}
	}
}

func TestDerivableOfOddNumbers(t *testing.T) {
	b := bookOf(by("x", 1)...)
	for _, id := range oddNumbers() {
		expectDerivable(t, b, []int{id}, by("y", id), true)
		expectDerivable(t, b, []int{id}, by("x", id, 1), true)
		expectDerivable(t, b, []int{id}, by("y", 1), false)
		expectDerivable(t, b, nil, by("y", id), false)
		expectDerivable(t, b, []int{3, 1}, by("y", id), false)
	}
	expectDerivable(t, b, oddNumbers(), by("y", oddNumbers()...), true)
	expectDerivable(t, b, []int{math.MaxInt, math.MinInt}, by("y", math.MinInt, math.MaxInt, 0), false)
}

// The zero signature is one like others.
func TestTheZeroSignature(t *testing.T) {
	b := terms.New()
	expectDerivable(t, b, nil, []api.Sig{{}}, false)
	expectDerivable(t, b, []int{0}, []api.Sig{{}}, true)
	b.Note(api.Sig{})
	expectStand(t, b, []api.Sig{{}}, append(by("x", 0), by("", 1)...))
	expectDerivable(t, b, nil, []api.Sig{{}}, true)
}

func TestDerivableOfLongLists(t *testing.T) {
	const many = 300000
	b := bookOf(by("x", -5)...)
	expectDerivable(t, b, falling(many), by("y", falling(many)...), true)
	expectDerivable(t, b, falling(many), by("y", falling(many+1)...), false)
	expectDerivable(t, b, slices.Repeat([]int{3}, many), slices.Repeat(by("y", 3), many), true)
	expectDerivable(t, b, slices.Repeat([]int{3}, many), slices.Repeat(by("x", -5), many), true)
	expectDerivable(t, b, slices.Repeat([]int{3}, many), append(slices.Repeat(by("x", -5), many), by("y", -5)...), false)
}

// R4: Derivable leaves both lists as they were.
func TestDerivableLeavesItsLists(t *testing.T) {
	bad, sigs := []int{9, 2, 9, 1, 0}, by("x", 9, 1, 5, 1)
	bookOf(by("x", 5)...).Derivable(bad[:4], sigs)
	if !slices.Equal(bad, []int{9, 2, 9, 1, 0}) || !slices.Equal(sigs, by("x", 9, 1, 5, 1)) {
		t.Error(bad, sigs)
	}
}

// P9.3, over all books, all sets of bad ones and all lists out of three signers and two texts.

// universe answers the signatures that there are, and who signs.
func universe() ([]api.Sig, []int) {
	return append(by("x", 0, 1, 2), by("y", 0, 1, 2)...), first(3)
}

// derivable answers, by its sets, what Derivable says.
func derivable(book, bad, list int) bool {
	sigs, signers := universe()
	return bookOf(chosen(sigs, book)...).Derivable(chosen(signers, bad), chosen(sigs, list))
}

func TestDerivableAsTheModel(t *testing.T) {
	sigs, signers := universe()
	for book := range 64 {
		for bad := range 8 {
			for list := range 64 {
				want := modelDerivable(chosen(sigs, book), chosen(signers, bad), chosen(sigs, list))
				if got := derivable(book, bad, list); got != want {
					t.Fatalf("book %b, bad %b, list %b: %v", book, bad, list, got)
				}
			}
		}
	}
}

// What is derivable stays so when one more is noted, or one more is bad; hence with any number more.
func TestDerivableStays(t *testing.T) {
	sigs, signers := universe()
	seen := 0
	for book := range 64 {
		for bad := range 8 {
			for list := range 64 {
				if !derivable(book, bad, list) {
					continue
				}
				seen++
				b := bookOf(chosen(sigs, book)...)
				for i := range sigs {
					b.Note(sigs[i])
					expectDerivable(t, b, chosen(signers, bad), chosen(sigs, list), true)
				}
				for i := range signers {
					if !derivable(book, bad|1<<i, list) {
						t.Fatalf("book %b, bad %b, list %b: no more with %d", book, bad, list, i)
					}
				}
			}
		}
	}
	if seen == 0 {
		t.Error("nothing is derivable")
	}
}

func TestWithoutBadOnesOnlyWhatStands(t *testing.T) {
	for book := range 64 {
		for list := range 64 {
			if got := derivable(book, 0, list); got != (list&^book == 0) {
				t.Fatalf("book %b, list %b: %v", book, list, got)
			}
		}
	}
}

// A list in another order, with repeats, is as derivable as the list.
func TestDerivableInWhateverRow(t *testing.T) {
	sigs, signers := universe()
	for book := range 64 {
		b := bookOf(chosen(sigs, book)...)
		for bad := range 8 {
			rows(sigs, 2, func(row []api.Sig) {
				row = append(row, row[0])
				expectDerivable(t, b, chosen(signers, bad), row, modelDerivable(chosen(sigs, book), chosen(signers, bad), row))
			})
		}
	}
}

// What bad ones put together out of a book is no proof, if they and those who signed are too few.
func TestTooFewMakeNoProof(t *testing.T) {
	for _, members := range councils() {
		c := conf(members...)
		quorum := quorums()[len(members)]
		bad, honest := members[:quorum/2], members[quorum/2:]
		for n := range len(honest) + 1 {
			b := bookOf(by("x", honest[:n]...)...)
			found := false
			for set := range 1 << len(members) {
				sigs := by("x", chosen(members, set)...)
				found = found || b.Derivable(bad, sigs) && terms.Proves(c, "x", sigs)
			}
			if found != (len(bad)+n >= quorum) {
				t.Errorf("of %v %v are bad and %v signed: a proof: %v", members, bad, honest[:n], found)
			}
		}
	}
}

// R7: a nil book.

func TestNilBook(t *testing.T) {
	var b *terms.Book
	b.Note()
	b.Note(by("x", 1)...)
	b.Note(by("x", 1, 2, 3)...)
	expectStand(t, b, nil, append(by("x", 1, 2, 3), api.Sig{}))
	expectDerivable(t, b, nil, nil, true)
	expectDerivable(t, b, []int{1}, nil, true)
	expectDerivable(t, b, nil, by("x", 1), false)
	expectDerivable(t, b, []int{2}, by("x", 1, 2), false)
	expectDerivable(t, b, []int{2, 1}, by("x", 1, 2, 1), true)
	sigs, signers := universe()
	for bad := range 8 {
		for list := range 64 {
			who := chosen(signers, bad)
			want := modelDerivable(nil, who, chosen(sigs, list))
			expectDerivable(t, b, who, chosen(sigs, list), want)
		}
	}
}

// W0: a book that New didn't make is one in which nothing stands.
func TestZeroBook(t *testing.T) {
	var b terms.Book
	expectStand(t, &b, nil, by("x", 1))
	expectDerivable(t, &b, nil, by("x", 1), false)
	expectDerivable(t, &b, []int{1}, by("x", 1), true)
	b.Note()
	expectStand(t, &b, nil, by("x", 1))
	b.Note(by("x", 1, 1)...)
	expectStand(t, &b, by("x", 1), by("x", 2))
}

// R6: what is answered is the same each time it is asked.
func TestAskedTwice(t *testing.T) {
	sigs, signers := universe()
	for book := range 64 {
		b := bookOf(chosen(sigs, book)...)
		for list := range 64 {
			one, two := b.Derivable(signers[:1], chosen(sigs, list)), b.Derivable(signers[:1], chosen(sigs, list))
			if one != two || b.Len() != bits.OnesCount(uint(book)) {
				t.Fatalf("book %b, list %b: %v and %v", book, list, one, two)
			}
		}
	}
}
