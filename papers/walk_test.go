package papers_test

import (
	"slices"
	"testing"

	"witan/api"
	"witan/papers"
)

// seatsOf answers who sits in an epoch: from epoch to epoch somebody comes, goes, or both.
func seatsOf(epoch int) []int {
	n := least + epoch%7
	var list []int
	for i := range n {
		list = append(list, (i+epoch)%ids)
	}
	slices.Sort(list)
	return list
}

// history answers the papers of the epochs from one to another, and the certificates between them, each with just a quorum's signatures.
func history(from, to int) ([]api.Paper, []string) {
	all := []api.Paper{paper(from, seatsOf(from)...)}
	var chain []string
	for epoch := from + 1; epoch <= to; epoch++ {
		old, next := all[len(all)-1], paper(epoch, seatsOf(epoch)...)
		list := idsOf(old)
		chain = append(chain, cert(old, next, list[len(list)-quorums()[len(list)]:]...))
		all = append(all, next)
	}
	return all, chain
}

// modelWalk goes by papers.Check, from the last certificate's side: a chain leads where its beginning leads, and the last one from there.
func modelWalk(from api.Paper, chain []string) (api.Paper, int, api.Errno) {
	if !modelRight(from) {
		return api.Paper{}, 0, api.ErrField
	}
	if len(chain) == 0 {
		return from, 0, api.OK
	}
	end := len(chain) - 1
	at, n, e := modelWalk(from, chain[:end])
	if e != api.OK {
		return at, n, e
	}
	next, e := papers.Check(at, chain[end])
	if e != api.OK {
		return at, n, e
	}
	return next, n + 1, api.OK
}

// P8.1: Walk.

func TestWalkOfNoneAndOfOne(t *testing.T) {
	all, chain := history(0, 1)
	expectWalk(t, all[0], nil, all[0], 0, api.OK)
	expectWalk(t, all[0], []string{}, all[0], 0, api.OK)
	expectWalk(t, all[0], chain, all[1], 1, api.OK)
	expectWalk(t, plain(65535, first(10)...), nil, plain(65535, first(10)...), 0, api.OK)
}

func TestWalkOfMany(t *testing.T) {
	all, chain := history(0, 30)
	expectWalk(t, all[0], chain, all[30], 30, api.OK)
	for k, p := range all[:15] {
		expectWalk(t, all[0], chain[:k], p, k, api.OK)
	}
}

// The last epoch there is: nothing follows it.
func TestWalkToTheLastEpoch(t *testing.T) {
	all, chain := history(65530, 65535)
	expectWalk(t, all[0], chain, all[5], 5, api.OK)
	zero := paper(0, 0, 1, 2, 3)
	past := append(slices.Clone(chain), cert(all[5], zero, idsOf(all[5])...))
	expectWalk(t, all[0], past, all[5], 5, api.ErrEpoch)
}

// A first paper of another epoch than 0 is as good as any.
func TestWalkOfEachFirstPaper(t *testing.T) {
	all, chain := history(0, 9)
	for k := range all {
		expectWalk(t, all[k], chain[k:], all[9], 9-k, api.OK)
		if k > 0 {
			expectWalk(t, all[k], chain, all[k], 0, api.ErrEpoch)
		}
	}
}

func TestWalkOfAWrongFirstPaper(t *testing.T) {
	_, chain := history(0, 2)
	for name, from := range wrongPapers() {
		for _, chain := range [][]string{nil, chain, {""}} {
			if p, n, e := papers.Walk(from, chain); e != api.ErrField || n != 0 || !samePaper(p, api.Paper{}) {
				t.Errorf("%s: %v %d %d", name, p, n, e)
			}
		}
	}
}

// broken answers certificates that don't follow the old paper, by the error that each is.
func broken(old, next api.Paper) map[api.Errno]string {
	list := idsOf(old)
	quorum := quorums()[len(list)]
	skipped := copied(next)
	skipped.Epoch++
	turned := slices.Clone(list)
	turned[0], turned[1] = turned[1], turned[0]
	return map[api.Errno]string{
		api.ErrBytes:  cert(old, next, list...) + "x",
		api.ErrEpoch:  cert(old, skipped, list...),
		api.ErrSig:    cert(old, next, turned...),
		api.ErrQuorum: cert(old, next, list[:quorum-1]...),
	}
}

// At the first error the paper ahead of it is told, whatever comes behind it.
func TestWalkOfABrokenChain(t *testing.T) {
	all, chain := history(0, 9)
	for k := range chain {
		for wantErr, c := range broken(all[k], all[k+1]) {
			bad := slices.Clone(chain)
			bad[k] = c
			expectWalk(t, all[0], bad, all[k], k, wantErr)
			expectWalk(t, all[0], bad[:k+1], all[k], k, wantErr)
			expectWalk(t, all[0], append(slices.Clone(bad[:k+1]), "", "x"), all[k], k, wantErr)
			expectWalk(t, all[0], slices.Insert(slices.Clone(chain), k, c), all[k], k, wantErr)
		}
		missing := slices.Delete(slices.Clone(chain), k, k+1)
		if k < len(chain)-1 {
			expectWalk(t, all[0], missing, all[k], k, api.ErrEpoch)
			swapped := slices.Clone(chain)
			swapped[k], swapped[k+1] = swapped[k+1], swapped[k]
			expectWalk(t, all[0], swapped, all[k], k, api.ErrEpoch)
		}
		doubled := slices.Insert(slices.Clone(chain), k, chain[k])
		expectWalk(t, all[0], doubled, all[k+1], k+1, api.ErrEpoch)
	}
}

// Each certificate is held against the one before it, not against the first paper: who sat first and no more signs in vain.
func TestWalkGoesByTheOneBefore(t *testing.T) {
	a, b, c := paper(0, 0, 1, 2, 3), paper(1, 4, 5, 6, 7), paper(2, 0, 1, 2, 3)
	step := cert(a, b, 0, 1, 2)
	expectWalk(t, a, []string{step, cert(b, c, 4, 5, 6)}, c, 2, api.OK)
	expectWalk(t, a, []string{step, cert(a, c, 0, 1, 2)}, b, 1, api.ErrSig)
	same := paper(2, 4, 5, 6, 7)
	expectWalk(t, a, []string{step, cert(a, same, 4, 5, 6)}, b, 1, api.ErrSig)
}

// P8.3: cut at every place, a chain leads from where its beginning leads to where the whole leads; so does a broken one, wherever it breaks.
func TestWalkCutAtEveryPlace(t *testing.T) {
	all, chain := history(0, 7)
	chains := [][]string{chain, nil, chain[:1]}
	for k := range chain {
		for _, c := range broken(all[k], all[k+1]) {
			bad := slices.Clone(chain)
			bad[k] = c
			chains = append(chains, bad)
		}
	}
	for _, chain := range chains {
		whole, n, e := papers.Walk(all[0], chain)
		for k := range len(chain) + 1 {
			at, ahead, e1 := papers.Walk(all[0], chain[:k])
			if e1 != api.OK {
				if e1 != e || ahead != n || !samePaper(at, whole) {
					t.Errorf("cut at %d: %d %d, whole %d %d", k, ahead, e1, n, e)
				}
				continue
			}
			expectWalk(t, at, chain[k:], whole, n-ahead, e)
		}
	}
}

func TestWalkAgainstTheModel(t *testing.T) {
	all, chain := history(0, 3)
	pieces := append(slices.Clone(chain), "", broken(all[1], all[2])[api.ErrQuorum])
	rows := len(pieces) * len(pieces) * len(pieces) * len(pieces)
	for row := range rows {
		var some []string
		for rest := row + rows; rest > 1; rest /= len(pieces) {
			some = append(some, pieces[rest%len(pieces)])
		}
		for _, from := range all[:2] {
			want, n, e := modelWalk(from, some)
			expectWalk(t, from, some, want, n, e)
		}
	}
}

// R4: the first paper and the chain stay as they were, and what is answered is nobody else's.
func TestWalkSharesNothing(t *testing.T) {
	all, chain := history(0, 3)
	for k := range 4 {
		for _, chain := range [][]string{chain[:k], append(slices.Clone(chain[:k]), "x")} {
			before := slices.Clone(chain)
			one, n, _ := papers.Walk(all[0], chain)
			other, _, _ := papers.Walk(all[0], chain)
			if n != k || !samePaper(one, all[k]) {
				t.Errorf("%d: %v %d", k, one, n)
			}
			spoil(one)
			if !samePaper(all[0], paper(0, seatsOf(0)...)) || !samePaper(other, all[k]) || !slices.Equal(chain, before) {
				t.Errorf("%d: %v %v", k, all[0], other)
			}
		}
	}
}
