package change_test

import (
	"fmt"
	"math"
	"slices"
	"strings"
	"testing"

	"witan/api"
	"witan/slots"
)

// P16.1: which changes are right.

// Of each configuration each member's change of each view, without a certificate, with one of each slot, and with several.
func TestRightOnes(t *testing.T) {
	for _, c := range someConfs() {
		e, q := c.Epoch, quorumOf(c.Members)
		for _, id := range c.Members {
			for _, view := range []int{1, 2, 8, 14, 15} {
				expectRight(t, "none", c, changeOf(e, id, view), api.OK)
				for set := range 1 << interval {
					var certs []api.Cert
					in, _ := chosen(slotsOf(e), set)
					for i, slot := range in {
						certs = append(certs, certOf(e, (view-1)*i/3, slot, unlike()[(id+7*i)%len(unlike())], q...))
					}
					expectRight(t, "some", c, changeOf(e, id, view, certs...), api.OK)
				}
			}
		}
	}
}

// What a log knows makes a right change, which begins each later view.
func TestChangesOfLogsAreRight(t *testing.T) {
	for _, c := range someConfs() {
		l, _ := slots.New(c)
		for i, slot := range slotsOf(c.Epoch) {
			r := unlike()[5*i]
			l.Propose(slot, r)
			for _, id := range c.Members {
				if e := l.Prepare(id, slot, r, api.Sig{By: id, Text: preparedText(c.Epoch, i, slot, r)}); e != api.OK {
					t.Fatal(e)
				}
			}
			expectRight(t, "log", c, changeOf(c.Epoch, c.Members[i], i+1, l.Certs()...), api.OK)
			if len(l.Certs()) != i+1 {
				t.Fatal(l.Certs())
			}
			l.Enter(i + 1)
			expectRight(t, "log", c, changeOf(c.Epoch, c.Members[i], i+1, l.Certs()...), api.OK)
			expectRight(t, "log", c, changeOf(c.Epoch, c.Members[i], i, l.Certs()...), map[bool]api.Errno{true: api.ErrArg, false: api.ErrView}[i == 0])
		}
	}
}

func TestRightOfWrongConfigurations(t *testing.T) {
	for name, c := range wrongConfs() {
		for _, x := range []api.Change{
			changeOf(c.Epoch, 0, 1), changeOf(0, 0, 1), changeOf(c.Epoch, 7, 1), {}, {From: 99}, full(c.Epoch), long(0, 1, 1, 70000),
			changeOf(1, 2, 3, certOf(1, 0, 5, get("k"), 1, 2, 3, 4)),
		} {
			expectRight(t, name, c, x, api.ErrArg)
		}
	}
}

// What doesn't fit, and what is too long, is told as Text tells it, ahead of all else.
func TestRightOfWhatHasNoText(t *testing.T) {
	c := conf(1, 0, 1, 2, 3)
	for _, from := range []int{-1, 16, 101, math.MinInt, math.MaxInt} {
		expectRight(t, "from", c, changeOf(1, from, 2), api.ErrArg)
	}
	for _, view := range []int{-1, 0, 16, math.MinInt, math.MaxInt} {
		expectRight(t, "view", c, changeOf(1, 0, view), api.ErrArg)
		expectRight(t, "view, of a stranger", c, changeOf(1, 9, view), api.ErrArg)
	}
	for _, slot := range []int{-1, 0, 1, 4, 9, 10, 256 + 5, math.MinInt, math.MaxInt} {
		expectRight(t, "slot", c, changeOf(1, 0, 2, certOf(1, 0, slot, get("k"), 0, 1, 2)), api.ErrArg)
	}
	for _, view := range []int{-1, 16, math.MinInt, math.MaxInt} {
		expectRight(t, "cert's view", c, changeOf(1, 0, 2, certOf(1, view, 5, get("k"), 0, 1, 2)), api.ErrArg)
	}
	for _, r := range neither() {
		expectRight(t, "request", c, changeOf(1, 0, 2, certOf(1, 0, 5, r, 0, 1, 2)), api.ErrArg)
	}
	five, six := certOf(1, 0, 5, get("k"), 0, 1, 2), certOf(1, 0, 6, get("l"), 0, 1, 2)
	expectRight(t, "falling", c, changeOf(1, 0, 2, six, five), api.ErrArg)
	expectRight(t, "twice", c, changeOf(1, 0, 2, five, five), api.ErrArg)
	expectRight(t, "seventeen", c, changeOf(1, 0, 2, certOf(1, 0, 5, get("k"), slices.Repeat([]int{0, 1, 2}, 6)[:17]...)), api.ErrArg)
	expectRight(t, "200", c, changeOf(1, 0, 2, certOf(1, 0, 5, get("k"), 0, 1, 200)), api.ErrArg)
	expectRight(t, "199", c, changeOf(1, 0, 2, certOf(1, 0, 5, get("k"), 0, 1, 2, 199)), api.ErrQuorum)
	expectRight(t, "long", c, long(1, 2, 3, 65536), api.ErrLong)
	expectRight(t, "not too long", c, long(1, 2, 3, 65535), api.ErrQuorum)
}

func TestRightOfStrangers(t *testing.T) {
	for _, c := range someConfs() {
		cert := certOf(c.Epoch, 0, 4*c.Epoch+2, get("k"), quorumOf(c.Members)...)
		for _, id := range strangers(c.Members) {
			expectRight(t, "stranger", c, changeOf(c.Epoch, id, 1), api.ErrAbsent)
			expectRight(t, "stranger", c, changeOf(c.Epoch, id, 1, cert), api.ErrAbsent)
			expectRight(t, "stranger, unsigned", c, api.Change{From: id, View: 15}, api.ErrAbsent)
		}
	}
}

// A certificate is of a view below the change's.
func TestRightOfEachView(t *testing.T) {
	c := conf(3, 1, 2, 3, 4)
	for view := 1; view <= lastView; view++ {
		for of := range lastView + 1 {
			want := api.OK
			if of >= view {
				want = api.ErrView
			}
			for _, slot := range slotsOf(3) {
				expectRight(t, "view", c, changeOf(3, 2, view, certOf(3, of, slot, put("k", 2), 1, 2, 4)), want)
			}
			for at, slot := range slotsOf(3) {
				var certs []api.Cert
				for _, s := range slotsOf(3) {
					certs = append(certs, certOf(3, 0, s, null(), 2, 3, 4))
				}
				certs[at] = certOf(3, of, slot, put("k", 2), 1, 2, 4)
				expectRight(t, "one of four", c, changeOf(3, 2, view, certs...), want)
			}
		}
	}
}

// Of each number of members each set of them signs: a quorum is enough, and no fewer.
func TestRightOfEachSetOfSigners(t *testing.T) {
	for n := least; n <= most; n++ {
		c := conf(n, spread(n)...)
		for set := range 1 << n {
			in, _ := chosen(c.Members, set)
			want := api.ErrQuorum
			if len(in) >= quorums()[n] {
				want = api.OK
			}
			expectRight(t, "signers", c, changeOf(n, c.Members[0], 1, certOf(n, 0, 4*n+1+set%4, get("k"), in...)), want)
		}
	}
}

// wrongProofs answers lists of signatures that prove nothing of the request k in the epoch 1, the view 2 and the slot 6 for the members 0, 3, 7, 15.
func wrongProofs() map[string][]api.Sig {
	good := certOf(1, 2, 6, get("k"), 0, 3, 7).Sigs
	all := map[string][]api.Sig{
		"nil": nil, "none": {}, "one": good[:1], "two": good[:2],
		"one twice":             append(slices.Clone(good[:2]), good[1]),
		"one twice beside":      append(slices.Clone(good), good[2]),
		"falling":               {good[2], good[1], good[0]},
		"not rising":            {good[0], good[2], good[1]},
		"one thrice":            {good[0], good[0], good[0]},
		"with a stranger":       append(slices.Clone(good), api.Sig{By: 16, Text: good[0].Text}),
		"with another replica":  {good[0], {By: 1, Text: good[0].Text}, good[1], good[2]},
		"a stranger for one":    {good[0], {By: 1, Text: good[0].Text}, good[1]},
		"a client for one":      {good[0], good[1], {By: 101, Text: good[0].Text}},
		"empty texts":           {{By: 0}, {By: 3}, {By: 7}},
		"one empty text":        {good[0], {By: 3}, good[2]},
		"one empty text beside": append(slices.Clone(good), api.Sig{By: 15}),
		"the request's text":    signatures(requestText(get("k")), 0, 3, 7),
		"a state's text":        signatures("S\x00\x00\x00\x06"+requestText(get("k")), 0, 3, 7),
		"sixteen":               signatures(good[0].Text, firstOf(16)...),
	}
	for name, text := range map[string]string{
		"epoch 0": preparedText(0, 2, 6, get("k")), "epoch 2": preparedText(2, 2, 6, get("k")),
		"view 1": preparedText(1, 1, 6, get("k")), "view 3": preparedText(1, 3, 6, get("k")), "view 0": preparedText(1, 0, 6, get("k")),
		"slot 5": preparedText(1, 2, 5, get("k")), "slot 7": preparedText(1, 2, 7, get("k")),
		"another request": preparedText(1, 2, 6, get("l")), "the null request": preparedText(1, 2, 6, null()), "another stamp": preparedText(1, 2, 6, request(2, 4, api.OpGet, "k", 0, 0)),
		"a byte more": good[0].Text + "\x00", "a byte less": good[0].Text[:len(good[0].Text)-1],
	} {
		all[name] = signatures(text, 0, 3, 7)
		all[name+", all"] = signatures(text, 0, 3, 7, 15)
		for i := range good {
			one := slices.Clone(good)
			one[i].Text = text
			all[fmt.Sprint(name, " of one: ", i)] = one
		}
		all[name+" beside"] = append(slices.Clone(good), api.Sig{By: 15, Text: text})
	}
	return all
}

func TestRightOfWrongProofs(t *testing.T) {
	c := conf(1, 0, 3, 7, 15)
	good := certOf(1, 2, 6, get("k"), 0, 3, 7)
	expectRight(t, "good", c, changeOf(1, 3, 4, good), api.OK)
	for name, sigs := range wrongProofs() {
		cert := good
		cert.Sigs = sigs
		expectRight(t, name, c, changeOf(1, 3, 4, cert), api.ErrQuorum)
		expectRight(t, name+", the view's next", c, changeOf(1, 3, 3, cert), api.ErrQuorum)
		expectRight(t, name+", the view", c, changeOf(1, 3, 2, cert), api.ErrView)
		expectRight(t, name+", unsigned", c, api.Change{From: 3, View: 4, Certs: []api.Cert{cert}}, api.ErrQuorum)
		for _, other := range []api.Cert{certOf(1, 3, 5, null(), 0, 3, 7, 15), certOf(1, 3, 8, join(3), 3, 7, 15)} {
			certs := []api.Cert{cert, other}
			slices.SortFunc(certs, func(a, b api.Cert) int { return a.Slot - b.Slot })
			expectRight(t, name+", one of two", c, changeOf(1, 3, 4, certs...), api.ErrQuorum)
		}
	}
}

// What is prepared has unlike texts for unlike requests: no certificate is one of another request, and a real counts by its bits.
func TestRightOfEachRequest(t *testing.T) {
	c := conf(0, 0, 1, 2, 3)
	for i, r := range unlike() {
		expectRight(t, "its own", c, changeOf(0, 0, 1, certOf(0, 0, 1, r, 0, 1, 3)), api.OK)
		for k, other := range unlike() {
			cert := certOf(0, 0, 1, r, 0, 1, 3)
			cert.Req = other
			if i != k {
				expectRight(t, "another one", c, changeOf(0, 0, 1, cert), api.ErrQuorum)
			}
		}
	}
	for _, x := range nans() {
		for _, y := range nans() {
			cert := certOf(0, 0, 1, put("k", x), 0, 1, 3)
			cert.Req = put("k", y)
			expectRight(t, "NaN", c, changeOf(0, 0, 1, cert), api.OK)
		}
	}
}

// Its Sig is From's, of its text.
func TestRightOfWrongSigs(t *testing.T) {
	c := conf(1, 0, 1, 2, 3)
	cert := certOf(1, 0, 5, get("k"), 0, 1, 2)
	x := changeOf(1, 1, 2, cert)
	text := x.Sig.Text
	expectRight(t, "good", c, x, api.OK)
	for name, s := range map[string]api.Sig{
		"none": {}, "no text": {By: 1}, "nobody": {Text: text}, "another member": {By: 2, Text: text}, "a stranger": {By: 9, Text: text}, "a client": {By: 101, Text: text},
		"-1": {By: -1, Text: text}, "the greatest": {By: math.MaxInt, Text: text}, "1 and 256": {By: 257, Text: text},
		"a byte more": {By: 1, Text: text + "\x00"}, "a byte less": {By: 1, Text: text[:len(text)-1]}, "very many bytes": {By: 1, Text: strings.Repeat(text, 10000)},
		"another view":  {By: 1, Text: bytesOf(1, api.Change{From: 1, View: 3, Certs: x.Certs})},
		"another from":  {By: 1, Text: bytesOf(1, api.Change{From: 2, View: 2, Certs: x.Certs})},
		"another epoch": {By: 1, Text: bytesOf(2, x)},
		"no certs":      {By: 1, Text: bytesOf(1, api.Change{From: 1, View: 2})},
		"other sigs":    {By: 1, Text: bytesOf(1, api.Change{From: 1, View: 2, Certs: []api.Cert{certOf(1, 0, 5, get("k"), 0, 1, 3)}})},
		"one more sig":  {By: 1, Text: bytesOf(1, api.Change{From: 1, View: 2, Certs: []api.Cert{certOf(1, 0, 5, get("k"), 0, 1, 2, 3)}})},
		"prepared":      cert.Sigs[1],
	} {
		y := x
		y.Sig = s
		expectRight(t, name, c, y, api.ErrSig)
	}
	for i := range text {
		bytes := []byte(text)
		bytes[i] ^= 1
		y := x
		y.Sig.Text = string(bytes)
		expectRight(t, fmt.Sprint("byte ", i), c, y, api.ErrSig)
	}
}

// What is altered in a change that was signed makes its signature wrong, if nothing else is.
func TestRightOfWhatWasAltered(t *testing.T) {
	c := conf(1, 0, 1, 2, 3)
	x := changeOf(1, 1, 4, certOf(1, 0, 5, get("k"), 0, 1, 2), certOf(1, 2, 7, put("k", nans()[1]), 0, 1, 2, 3))
	expectRight(t, "good", c, x, api.OK)
	for name, alter := range map[string]func(y *api.Change){
		"from":         func(y *api.Change) { y.From = 2 },
		"from and by":  func(y *api.Change) { y.From, y.Sig.By = 2, 2 },
		"view":         func(y *api.Change) { y.View = 5 },
		"a view below": func(y *api.Change) { y.View = 3 },
		"one less":     func(y *api.Change) { y.Certs = y.Certs[:1] },
		"the other":    func(y *api.Change) { y.Certs = y.Certs[1:] },
		"none":         func(y *api.Change) { y.Certs = nil },
		"one more":     func(y *api.Change) { y.Certs = append(y.Certs, certOf(1, 0, 8, null(), 1, 2, 3)) },
		"other slot":   func(y *api.Change) { y.Certs[0] = certOf(1, 0, 6, get("k"), 0, 1, 2) },
		"other view":   func(y *api.Change) { y.Certs[0] = certOf(1, 1, 5, get("k"), 0, 1, 2) },
		"other":        func(y *api.Change) { y.Certs[0] = certOf(1, 0, 5, get("l"), 0, 1, 2) },
		"signers":      func(y *api.Change) { y.Certs[0] = certOf(1, 0, 5, get("k"), 0, 1, 3) },
		"signers less": func(y *api.Change) { y.Certs[1].Sigs = y.Certs[1].Sigs[:3] },
	} {
		y := copied(x)
		alter(&y)
		expectRight(t, name, c, y, api.ErrSig)
	}
	y := copied(x)
	y.Certs[1].Req.Op.Real = nans()[3]
	expectRight(t, "another NaN", c, y, api.OK)
}

// Which error is told where more than one would fit: each change is wrong in the way named, and in all ways named behind it.
func TestRightTellsTheFirstError(t *testing.T) {
	c := conf(1, 0, 1, 2, 3)
	view, quorum := certOf(1, 4, 5, get("k"), 0), certOf(1, 0, 6, get("k"), 0)
	expectRight(t, "a wrong configuration, no fit", api.Conf{}, api.Change{From: 99}, api.ErrArg)
	expectRight(t, "a wrong configuration, too long", api.Conf{}, long(0, 1, 1, 70000), api.ErrArg)
	expectRight(t, "no fit, too long", c, func() api.Change { x := long(1, 1, 1, 70000); x.From = 16; return x }(), api.ErrArg)
	expectRight(t, "too long, a stranger", c, func() api.Change { x := long(1, 1, 1, 70000); x.From = 9; return x }(), api.ErrLong)
	expectRight(t, "too long, the view", c, func() api.Change { x := long(1, 1, 1, 70000); x.Certs[0].View = 9; return x }(), api.ErrLong)
	expectRight(t, "no fit, a stranger", c, api.Change{From: 9, View: 4, Certs: []api.Cert{quorum, view}}, api.ErrArg)
	expectRight(t, "a stranger, the view", c, api.Change{From: 9, View: 4, Certs: []api.Cert{view, quorum}}, api.ErrAbsent)
	expectRight(t, "a stranger, the quorum", c, api.Change{From: 9, View: 4, Certs: []api.Cert{quorum}}, api.ErrAbsent)
	expectRight(t, "the view, no quorum", c, api.Change{From: 1, View: 4, Certs: []api.Cert{view}}, api.ErrView)
	expectRight(t, "the view, then no quorum", c, api.Change{From: 1, View: 4, Certs: []api.Cert{view, quorum}}, api.ErrView)
	expectRight(t, "no quorum, unsigned", c, api.Change{From: 1, View: 4, Certs: []api.Cert{quorum}}, api.ErrQuorum)
	expectRight(t, "unsigned", c, api.Change{From: 1, View: 4}, api.ErrSig)
}

// Certificates are asked one by one: the first one that is wrong decides, whatever is wrong with it.
func TestRightAsksCertificatesOneByOne(t *testing.T) {
	c := conf(2, 0, 1, 2, 3)
	kinds := func(slot int) []api.Cert {
		return []api.Cert{certOf(2, 1, slot, get("k"), 0, 1, 3), certOf(2, 5, slot, get("k"), 0, 1, 3), certOf(2, 1, slot, get("k"), 0, 1)}
	}
	errors := []api.Errno{api.OK, api.ErrView, api.ErrQuorum}
	for row := range 81 {
		want := api.OK
		var certs []api.Cert
		for i, n := 0, row; i < interval; i, n = i+1, n/3 {
			certs = append(certs, kinds(9 + i)[n%3])
			if want == api.OK {
				want = errors[n%3]
			}
		}
		expectRight(t, fmt.Sprint(row), c, changeOf(2, 3, 5, certs...), want)
		x := api.Change{From: 3, View: 5, Certs: certs}
		if want == api.OK {
			want = api.ErrSig
		}
		expectRight(t, fmt.Sprint(row, " unsigned"), c, x, want)
	}
}

// A change is of one epoch: in another one its slots don't fit, or its signature is of another text.
func TestRightInOtherEpochs(t *testing.T) {
	for epoch := range lastEpoch + 1 {
		x := changeOf(30, 2, 3)
		y := changeOf(30, 2, 3, certOf(30, 1, 122, get("k"), 0, 1, 2))
		if epoch == 30 {
			expectRight(t, "its own", conf(epoch, 0, 1, 2, 3), x, api.OK)
			expectRight(t, "its own", conf(epoch, 0, 1, 2, 3), y, api.OK)
			continue
		}
		expectRight(t, "another one", conf(epoch, 0, 1, 2, 3), x, api.ErrSig)
		expectRight(t, "another one", conf(epoch, 0, 1, 2, 3), y, api.ErrArg)
	}
}
