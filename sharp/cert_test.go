package sharp_test

import (
	"math/rand"
	"slices"
	"testing"

	"wringing/api"
	"wringing/chain"
	"wringing/compare"
	"wringing/sharp"
)

func TestCertifyExample(t *testing.T) {
	c, e := sharp.Certify(example(), node(2, 10), true)
	if e != api.OK || c.Value != 1011 || !c.Upper || c.Node != node(2, 10) {
		t.Fatal("P6.7: Certify:", c, e)
	}
	_, sources, _ := compare.System(c.Book)
	var of []api.Source
	for _, i := range c.Chain {
		of = append(of, sources[i])
	}
	if !slices.Equal(of, []api.Source{{Kind: api.SoMade}, {Kind: api.SoWear}, {Kind: api.SoCompare}}) {
		t.Error("P6.7: Certify:", c, of)
	}
	if len(c.Book.Gauges) != 2 || len(c.Book.Compares) != 1 {
		t.Error("P6.7: Certify:", c.Book)
	}
}

// TestCertifyCuts has a book of which a certificate needs only a part.
func TestCertifyCuts(t *testing.T) {
	b := changed(example(), func(b *api.Book) {
		b.Gauges = append(b.Gauges, gauge(3, 50, 0, 5), gauge(4, 50, 0, 5), gauge(5, 50, 0, 5))
		b.Uses = append(b.Uses, use(3, 1), use(2, 1), use(4, 2))
		b.Loans = append(b.Loans, loan(2, 40, 50, 0), loan(5, 3, 9, 1))
		b.Compares[0].A, b.Compares[0].B = []int{1, 4}, []int{2, 4}
		b.Compares = append(b.Compares, cold(8, 5, []int{1}, nil, 1000, 100), cold(9, 6, []int{2}, nil, 1000, 200))
		b.Looks = []api.Node{node(1, 2), node(3, 2)}
	})
	c, e := sharp.Certify(b, node(2, 45), true)
	want := changed(b, func(w *api.Book) {
		w.Gauges = []api.Gauge{b.Gauges[0], b.Gauges[1], b.Gauges[3]}
		w.Uses = []api.Use{use(1, 10), use(2, 1), use(4, 2)}
		w.Loans = w.Loans[:2]
		w.Compares = w.Compares[:1]
		w.Looks = []api.Node{node(2, 45)}
	})
	if e != api.OK || !same(c.Book, want) || c.Value != 1013 || len(c.Chain) != 4 {
		t.Error("P6.7: Certify:", c, e)
	}
	if e := sharp.CheckCert(c); e != api.OK {
		t.Error("P6.7: CheckCert:", c, e)
	}
	c, e = sharp.Certify(b, node(3, 0), false)
	if e != api.OK || len(c.Book.Gauges) != 1 || len(c.Book.Uses) != 1 || len(c.Book.Loans)+len(c.Book.Compares)+len(c.Book.Looks) != 0 || c.Value != 50 || len(c.Chain) != 1 {
		t.Error("P6.7: Certify:", c, e)
	}
}

// certBook returns the book of the chapter with a gauge that hangs together with the others.
func certBook() api.Book {
	return changed(example(), func(b *api.Book) {
		b.Gauges = append(b.Gauges, gauge(3, 1000, -70, 70))
		b.Gauges[2].Wear = 2
		b.Uses = append(b.Uses, use(3, 11), use(3, 12))
		b.Compares = append(b.Compares, cold(8, 12, []int{2}, []int{3}, 1, 3), cold(9, 13, nil, []int{3}, -1000, 60))
	})
}

func TestCheckCertRefuses(t *testing.T) {
	good := func() api.Cert {
		c, _ := sharp.Certify(example(), node(2, 10), true)
		return c
	}
	low := func() api.Cert {
		c, _ := sharp.Certify(example(), node(2, 10), false)
		return c
	}
	// In the book of the chapter the links 0 and 1 are of the gauge 1, 2 and 3 of its wear, 4 to 7 of the gauge 2, 8 and 9 of the comparison.
	for i, x := range []struct {
		c      api.Cert
		change func(c *api.Cert)
		e      api.Errno
	}{
		{good(), func(c *api.Cert) {}, api.OK},
		{low(), func(c *api.Cert) {}, api.OK},
		{good(), func(c *api.Cert) { c.Value, c.Chain = 1050, []int{4, 6} }, api.OK},
		{good(), func(c *api.Cert) { c.Value, c.Chain = 1050, []int{4, 6, 7, 6} }, api.OK},
		{good(), func(c *api.Cert) { c.Value, c.Chain = 1011+10, []int{0, 1, 0, 2, 9} }, api.OK},
		{good(), func(c *api.Cert) {
			c.Value, c.Chain = 1050, slices.Concat([]int{4, 6}, slices.Repeat([]int{7, 6}, 39))
		}, api.OK},
		{good(), func(c *api.Cert) {
			c.Value, c.Chain = 1050, slices.Concat([]int{4, 6}, slices.Repeat([]int{7, 6}, 40))
		}, api.ErrProof},
		{good(), func(c *api.Cert) { c.Value, c.Chain = 1050, slices.Repeat([]int{0}, 100000) }, api.ErrProof},
		{low(), func(c *api.Cert) { c.Value, c.Chain = 950, []int{7, 5} }, api.OK},
		{good(), func(c *api.Cert) { c.Value = 1012 }, api.ErrProof},
		{good(), func(c *api.Cert) { c.Value = 1010 }, api.ErrProof},
		{good(), func(c *api.Cert) { c.Value = -1011 }, api.ErrProof},
		{good(), func(c *api.Cert) { c.Upper = false }, api.ErrProof},
		{good(), func(c *api.Cert) { c.Upper, c.Value = false, -1011 }, api.ErrProof},
		{low(), func(c *api.Cert) { c.Upper = true }, api.ErrProof},
		{low(), func(c *api.Cert) { c.Value = -984 }, api.ErrProof},
		{low(), func(c *api.Cert) { c.Value = leastInt }, api.ErrProof},
		{low(), func(c *api.Cert) { c.Value = mostInt }, api.ErrProof},
		{low(), func(c *api.Cert) { c.Value, c.Chain = 0, nil }, api.ErrProof},
		{good(), func(c *api.Cert) { c.Value, c.Chain = 0, nil }, api.ErrProof},
		{good(), func(c *api.Cert) { c.Chain = c.Chain[:2] }, api.ErrProof},
		{good(), func(c *api.Cert) { c.Chain = c.Chain[1:] }, api.ErrProof},
		{good(), func(c *api.Cert) { c.Chain[1] = -1 }, api.ErrProof},
		{good(), func(c *api.Cert) { c.Chain[1] = 10 }, api.ErrProof},
		{good(), func(c *api.Cert) { c.Chain[1] = 3 }, api.ErrProof},
		{good(), func(c *api.Cert) { c.Node = node(2, 0) }, api.ErrProof},
		{good(), func(c *api.Cert) { c.Node = node(2, 11) }, api.ErrNone},
		{good(), func(c *api.Cert) { c.Node = node(3, 10) }, api.ErrNone},
		{good(), func(c *api.Cert) { c.Node = node(2, -1) }, api.ErrNone},
		{good(), func(c *api.Cert) { c.Node, c.Value, c.Chain = api.Node{}, 0, nil }, api.ErrNone},
		{good(), func(c *api.Cert) { c.Book.Compares = nil }, api.ErrNone},
		{good(), func(c *api.Cert) { c.Book = api.Book{} }, api.ErrNone},
		{good(), func(c *api.Cert) { *c = api.Cert{} }, api.ErrNone},
		{good(), func(c *api.Cert) { c.Book.Gauges[0].Nominal++ }, api.ErrProof},
		{good(), func(c *api.Cert) { c.Book.Gauges[0].Tol.Hi++ }, api.ErrProof},
		{good(), func(c *api.Cert) { c.Book.Compares[0].Diff-- }, api.ErrProof},
		{good(), func(c *api.Cert) { c.Book.Compares[0].Diff++ }, api.ErrProof},
		{good(), func(c *api.Cert) { c.Book.Compares = nil; c.Node = node(2, 0) }, api.ErrProof},
		{good(), func(c *api.Cert) { c.Book.Gauges[1].ID = 1; c.Node = api.Node{} }, api.ErrTwice},
		{good(), func(c *api.Cert) { c.Book.Uses[0].Day = 22; c.Chain = nil }, api.ErrClash},
		{good(), func(c *api.Cert) { c.Book.Gauges = c.Book.Gauges[:1]; c.Node = api.Node{} }, api.ErrNone},
		{good(), func(c *api.Cert) { c.Book.Film = span(-1, 0); c.Node = api.Node{} }, api.ErrArg},
		// A bound may be proved in a book without a history.
		{good(), func(c *api.Cert) { c.Book = contradiction() }, api.OK},
	} {
		x.change(&x.c)
		if e := sharp.CheckCert(x.c); e != x.e {
			t.Error("P6.7: CheckCert:", i, e)
		}
		if stands, e := sharp.Stands(x.c.Book, x.c); x.c.Node != (api.Node{}) && (e != x.e || stands != (e == api.OK)) {
			t.Error("P6.9: Stands:", i, stands, e)
		}
	}
}

func TestClashExamples(t *testing.T) {
	c, e := sharp.Clash(contradiction())
	if e != api.OK || c.Node != (api.Node{}) || c.Upper || c.Value != 0 || !isClash(t, c) {
		t.Error("P6.8: Clash:", c, e)
	}
	// The gauge 2 is at most 1011 units long as the gauge 1 and the comparison 7 say, and at least 1017 as the comparison 9 says.
	if len(c.Chain) != 4 || !same(c.Book, contradiction()) {
		t.Error("P6.8: Clash:", c)
	}
	if stands, e := sharp.Stands(contradiction(), c); !stands || e != api.OK {
		t.Error("P6.9: Stands:", stands, e)
	}
	for i, b := range []api.Book{{}, example(), filled(), certBook()} {
		if c, e := sharp.Clash(b); !isNothing(c) || e != api.ErrNone {
			t.Error("P6.8: Clash:", i, c, e)
		}
	}
	none := changed(certBook(), func(b *api.Book) {
		b.Compares = append(b.Compares, hot(cold(10, 5, []int{1}, nil, 1000, 0), 1, 1))
	})
	c, e = sharp.Clash(none)
	want := changed(example(), func(b *api.Book) { b.Gauges, b.Compares = b.Gauges[:1], none.Compares[3:] })
	if e != api.OK || !same(c.Book, want) || len(c.Chain) != 2 || !isClash(t, c) {
		t.Error("P6.8: Clash:", c, e)
	}
	if c, e := sharp.Clash(changed(contradiction(), func(b *api.Book) { b.Gauges[0].ID = 3 })); !isNothing(c) || e != api.ErrTwice {
		t.Error("P6.8: Clash:", c, e)
	}
	full := changed(filled(), func(b *api.Book) { b.Compares[39].Diff, b.Compares[0].Diff = 1000, -1000 })
	c, e = sharp.Clash(full)
	if e != api.OK || len(c.Chain) != 3 || len(c.Book.Compares) != 1 || len(c.Book.Gauges) != 1 || !isClash(t, c) {
		t.Error("P6.8: Clash:", c, e)
	}
}

// isClash reports whether a certificate proves a contradiction, with the fewest links.
func isClash(t *testing.T, c api.Cert) bool {
	t.Helper()
	s := mustSystem(t, c.Book)
	l, e := chain.Clash(s)
	return e == api.OK && len(l) == len(c.Chain) && chain.CheckClash(s, c.Chain) == api.OK && sharp.CheckClash(c) == api.OK
}

func TestCheckClashRefuses(t *testing.T) {
	for i, x := range []struct {
		change func(c *api.Cert)
		e      api.Errno
	}{
		{func(c *api.Cert) {}, api.OK},
		{func(c *api.Cert) { c.Chain = slices.Concat(c.Chain[1:], c.Chain[:1]) }, api.OK},
		{func(c *api.Cert) { c.Chain = slices.Concat(c.Chain, c.Chain) }, api.OK},
		{func(c *api.Cert) { c.Chain = slices.Repeat(c.Chain, 20) }, api.OK},
		{func(c *api.Cert) { c.Chain = slices.Repeat(c.Chain, 21) }, api.ErrProof},
		{func(c *api.Cert) { c.Chain = nil }, api.ErrProof},
		{func(c *api.Cert) { c.Chain = c.Chain[1:] }, api.ErrProof},
		{func(c *api.Cert) { c.Chain[0] = 100 }, api.ErrProof},
		{func(c *api.Cert) { c.Chain[0] = -1 }, api.ErrProof},
		{func(c *api.Cert) { c.Chain = []int{0, 1} }, api.ErrProof},
		{func(c *api.Cert) { slices.Reverse(c.Chain) }, api.ErrProof},
		{func(c *api.Cert) { c.Book = example() }, api.ErrProof},
		{func(c *api.Cert) { c.Node = node(2, 10) }, api.ErrArg},
		{func(c *api.Cert) { c.Node.Day = 1 }, api.ErrArg},
		{func(c *api.Cert) { c.Node.Gauge = 1 }, api.ErrArg},
		{func(c *api.Cert) { c.Upper = true }, api.ErrArg},
		{func(c *api.Cert) { c.Value = 1 }, api.ErrArg},
		{func(c *api.Cert) { c.Value = -6; c.Chain = nil }, api.ErrArg},
		{func(c *api.Cert) { c.Book.Uses = append(c.Book.Uses, use(5, 5)); c.Value = 1 }, api.ErrNone},
		{func(c *api.Cert) { c.Book.Gauges[1].ID = 1; c.Chain = nil }, api.ErrTwice},
		{func(c *api.Cert) { *c = api.Cert{} }, api.ErrProof},
	} {
		c, _ := sharp.Clash(contradiction())
		x.change(&c)
		if e := sharp.CheckClash(c); e != x.e {
			t.Error("P6.8: CheckClash:", i, e)
		}
		if stands, e := sharp.Stands(c.Book, c); c.Node == (api.Node{}) && (e != x.e || stands != (e == api.OK)) {
			t.Error("P6.9: Stands:", i, stands, e)
		}
	}
}

func TestPartExamples(t *testing.T) {
	third := func(b *api.Book) {
		b.Gauges = append(b.Gauges, gauge(3, 1000, -70, 70))
		b.Uses = append(b.Uses, use(3, 11), use(3, 12))
	}
	for i, x := range []struct {
		change func(s, b *api.Book)
		part   bool
	}{
		{func(s, b *api.Book) {}, true},
		{func(s, b *api.Book) { *s = api.Book{Film: b.Film} }, true},
		{func(s, b *api.Book) { *s = api.Book{} }, false},
		{func(s, b *api.Book) { s.Film.Lo++ }, false},
		{func(s, b *api.Book) { b.Film.Hi++ }, false},
		{func(s, b *api.Book) { s.Compares = nil }, true},
		{func(s, b *api.Book) { b.Compares = nil }, false},
		{func(s, b *api.Book) { third(b) }, true},
		{func(s, b *api.Book) { third(s) }, false},
		{func(s, b *api.Book) { third(s); third(b) }, true},
		{func(s, b *api.Book) { third(s); third(b); s.Uses = s.Uses[:2] }, false},
		{func(s, b *api.Book) { third(s); third(b); b.Uses = b.Uses[:2] }, false},
		{func(s, b *api.Book) { third(s); third(b); slices.Reverse(b.Uses) }, true},
		{func(s, b *api.Book) { third(s); third(b); b.Uses = append(b.Uses, b.Uses...) }, true},
		{func(s, b *api.Book) { third(s); third(b); s.Uses = append(s.Uses, s.Uses...) }, true},
		{func(s, b *api.Book) { s.Uses[0].Day = 9 }, false},
		{func(s, b *api.Book) { s.Uses = nil }, false},
		{func(s, b *api.Book) { b.Uses = nil }, false},
		{func(s, b *api.Book) { s.Uses[0].Gauge = 2 }, false},
		{func(s, b *api.Book) { s.Uses, s.Gauges, s.Compares, s.Loans = nil, s.Gauges[1:], nil, nil }, true},
		{func(s, b *api.Book) { s.Gauges, s.Compares = s.Gauges[:1], nil }, true},
		{func(s, b *api.Book) { s.Gauges, s.Compares, s.Loans = s.Gauges[:1], nil, nil }, false},
		{func(s, b *api.Book) { b.Loans = nil }, false},
		{func(s, b *api.Book) { b.Loans[0].Wear++ }, false},
		{func(s, b *api.Book) { b.Loans[0].Days.Hi++ }, false},
		{func(s, b *api.Book) { b.Loans[0].Gauge = 2 }, false},
		{func(s, b *api.Book) {
			b.Loans = append(b.Loans, loan(2, 50, 60, 1))
			s.Loans = []api.Loan{b.Loans[1], b.Loans[0]}
		}, true},
		{func(s, b *api.Book) { b.Loans = append(b.Loans, loan(1, 50, 60, 0)) }, false},
		{func(s, b *api.Book) { b.Loans = append(b.Loans, loan(2, 50, 60, 0)) }, false},
		{func(s, b *api.Book) {
			b.Loans = append(b.Loans, loan(2, 50, 60, 0))
			s.Gauges, s.Compares = s.Gauges[:1], nil
		}, true},
		{func(s, b *api.Book) { s.Gauges[0].Nominal++ }, false},
		{func(s, b *api.Book) { s.Gauges[0].Tol.Lo++ }, false},
		{func(s, b *api.Book) { s.Gauges[0].Tol.Hi++ }, false},
		{func(s, b *api.Book) { s.Gauges[0].Growth = rat(1, 11) }, false},
		{func(s, b *api.Book) { s.Gauges[0].Growth = rat(3, 10) }, false},
		{func(s, b *api.Book) { s.Gauges[0].Wear++ }, false},
		{func(s, b *api.Book) { s.Gauges[0].Made++ }, false},
		{func(s, b *api.Book) { s.Gauges[1].ID = 3; s.Compares[0].B[0] = 3 }, false},
		{func(s, b *api.Book) { s.Compares[0].ID++ }, false},
		{func(s, b *api.Book) { s.Compares[0].Day++ }, false},
		{func(s, b *api.Book) { s.Compares[0].Diff++ }, false},
		{func(s, b *api.Book) { s.Compares[0].Error++ }, false},
		{func(s, b *api.Book) { s.Compares[0].Heat.Lo++ }, false},
		{func(s, b *api.Book) { s.Compares[0].Heat.Hi++ }, false},
		{func(s, b *api.Book) { s.Compares[0].A = nil }, false},
		{func(s, b *api.Book) { s.Compares[0].B = []int{} }, false},
		{func(s, b *api.Book) { s.Compares[0].B, b.Compares[0].B = nil, []int{} }, true},
		{func(s, b *api.Book) { s.Compares[0].A, s.Compares[0].B = s.Compares[0].B, s.Compares[0].A }, false},
		{func(s, b *api.Book) {
			b.Compares = append(b.Compares, cold(8, 5, []int{1}, nil, 1000, 100))
			s.Compares = []api.Compare{b.Compares[1], b.Compares[0]}
		}, true},
		{func(s, b *api.Book) { s.Looks = []api.Node{node(1, 3)} }, true},
		{func(s, b *api.Book) { b.Looks = []api.Node{node(1, 3)} }, true},
		{func(s, b *api.Book) { *s, *b = contradiction(), contradiction() }, true},
	} {
		s, b := example(), example()
		x.change(&s, &b)
		if part, e := sharp.Part(s, b); part != x.part || e != api.OK {
			t.Error("P6.9: Part:", i, part, e)
		}
	}
}

func TestPartAndStandsErrors(t *testing.T) {
	invalid, twice := api.Book{Film: span(1, 0)}, changed(example(), func(b *api.Book) { b.Gauges[1].ID = 1 })
	for i, x := range []struct {
		s, b api.Book
		e    api.Errno
	}{{invalid, example(), api.ErrArg}, {example(), invalid, api.ErrArg}, {invalid, twice, api.ErrArg}, {twice, invalid, api.ErrTwice}, {example(), twice, api.ErrTwice}} {
		if part, e := sharp.Part(x.s, x.b); part || e != x.e {
			t.Error("P6.9: Part:", i, part, e)
		}
	}
	good, _ := sharp.Certify(example(), node(2, 10), true)
	of := func(b api.Book, n api.Node, value int) api.Cert {
		return api.Cert{Book: b, Node: n, Upper: n != api.Node{}, Value: value, Chain: good.Chain}
	}
	for i, x := range []struct {
		b      api.Book
		c      api.Cert
		stands bool
		e      api.Errno
	}{
		{example(), good, true, api.OK},
		{certBook(), good, true, api.OK},
		{contradiction(), good, true, api.OK},
		{changed(example(), func(b *api.Book) { b.Compares[0].Diff = 7 }), good, false, api.OK},
		{changed(example(), func(b *api.Book) { b.Uses = append(b.Uses, use(1, 9)) }), good, false, api.OK},
		{api.Book{}, good, false, api.OK},
		{invalid, good, false, api.ErrArg},
		{invalid, of(twice, node(2, 10), 0), false, api.ErrArg},
		{twice, of(invalid, node(2, 10), 0), false, api.ErrTwice},
		{example(), of(twice, node(2, 10), 0), false, api.ErrTwice},
		{example(), of(twice, api.Node{}, 1), false, api.ErrTwice},
		{example(), of(example(), node(2, 11), 1011), false, api.ErrNone},
		{example(), of(example(), node(2, 10), 1010), false, api.ErrProof},
		{example(), of(example(), api.Node{}, 1), false, api.ErrArg},
		{example(), of(example(), api.Node{}, 0), false, api.ErrProof},
		{api.Book{}, of(example(), node(2, 10), 1010), false, api.ErrProof},
	} {
		if stands, e := sharp.Stands(x.b, x.c); stands != x.stands || e != x.e {
			t.Error("P6.9: Stands:", i, stands, e)
		}
	}
	clash, _ := sharp.Clash(contradiction())
	if stands, e := sharp.Stands(example(), clash); stands || e != api.OK {
		t.Error("P6.9: Stands:", stands, e)
	}
}

// TestStrangers certifies both ends of nodes of many books, and then changes the certificates.
func TestStrangers(t *testing.T) {
	r := rand.New(rand.NewSource(67))
	certified, contradictions, accepted := 0, 0, 0
	for _, s := range scenes(500, 4, 7) {
		possible := isPossible(t, s.b)
		clash, e := sharp.Clash(s.b)
		if possible {
			if e != api.ErrNone || !isNothing(clash) {
				t.Fatal("P6.8, P6.15: Clash:", s.b, clash, e)
			}
		} else {
			contradictions++
			if e != api.OK || !isClash(t, clash) || clash.Node != (api.Node{}) || clash.Upper || clash.Value != 0 || !isSmall(clash) {
				t.Fatal("P6.8: Clash:", s.b, clash, e)
			}
			mustStand(t, s.b, clash)
			continue
		}
		n := randomNode(r, s.b)
		interval := mustInterval(t, s.b, n)
		for upper, end := range map[bool]int{true: interval.Hi, false: interval.Lo} {
			c, e := sharp.Certify(s.b, n, upper)
			if e != api.OK || c.Node != n || c.Upper != upper || c.Value != end || len(c.Chain) > api.MaxFits || !isSmall(c) {
				t.Fatal("P6.7: Certify:", s.b, n, upper, c, e)
			}
			mustStand(t, s.b, c)
			certified++
			for range 6 {
				if changeCert(r, &c); sharp.CheckCert(c) == api.OK {
					accepted++
					checkAccepted(t, s.b, c)
				}
			}
		}
	}
	if certified < 500 || contradictions < 20 || accepted < 100 {
		t.Error("too few certificates:", certified, contradictions, accepted)
	}
}

// isSmall reports whether each gauge and each comparison of a certificate is needed for its links.
func isSmall(c api.Cert) bool {
	_, sources, _ := compare.System(c.Book)
	gauges, compares := map[int]bool{}, map[int]bool{}
	for _, i := range c.Chain {
		if s := sources[i]; s.Kind == api.SoCompare {
			compares[s.Which] = true
			for _, id := range slices.Concat(c.Book.Compares[s.Which].A, c.Book.Compares[s.Which].B) {
				gauges[id] = true
			}
		} else {
			gauges[c.Book.Gauges[s.Which].ID] = true
		}
	}
	return len(gauges) == len(c.Book.Gauges) && len(compares) == len(c.Book.Compares) && len(c.Book.Looks) <= 1
}

func mustStand(t *testing.T, b api.Book, c api.Cert) {
	t.Helper()
	if stands, e := sharp.Stands(b, c); !stands || e != api.OK {
		t.Fatal("P6.9, P6.14, P6.15: Stands:", b, c, stands, e)
	}
	if part, e := sharp.Part(c.Book, b); !part || e != api.OK {
		t.Fatal("P6.9: Part:", b, c, part, e)
	}
}

// changeCert changes something of a certificate.
func changeCert(r *rand.Rand, c *api.Cert) {
	c.Book, c.Chain = cloned(c.Book), slices.Clone(c.Chain)
	s, _, _ := compare.System(c.Book)
	nodes, _ := compare.Nodes(c.Book)
	switch r.Intn(8) {
	case 0:
		c.Value += r.Intn(3) - 1
	case 1:
		c.Node = nodes[r.Intn(len(nodes))]
	case 2:
		if len(c.Book.Compares) > 0 {
			c.Book.Compares = c.Book.Compares[1:]
		}
	case 3:
		c.Book.Gauges[0].Tol.Hi++
	case 4:
		c.Upper = !c.Upper
	case 5:
		c.Book.Looks = nil
	}
	// A random walk of links makes certificates of bounds that are not sharp.
	from, to := 0, 1+slices.Index(nodes, c.Node)
	if !c.Upper {
		from, to = to, from
	}
	var walk []int
	sum, at := 0, from
	for range 12 {
		i := r.Intn(len(s.Links))
		for s.Links[i].From != at {
			i = r.Intn(len(s.Links))
		}
		walk = append(walk, i)
		sum += s.Links[i].Most
		if at = s.Links[i].To; at == to {
			break
		}
	}
	if at != to || r.Intn(3) == 0 {
		return
	}
	c.Chain, c.Value = walk, sum
	if !c.Upper {
		c.Value = -sum
	}
}

// checkAccepted expects of a certificate that is accepted what it proves: in its book, and in another one if it stands there.
func checkAccepted(t *testing.T, b api.Book, c api.Cert) {
	t.Helper()
	bounds := func(book api.Book) bool {
		if !isPossible(t, book) {
			return true
		}
		interval := mustInterval(t, book, c.Node)
		return c.Upper && interval.Hi <= c.Value || !c.Upper && interval.Lo >= c.Value
	}
	if !bounds(c.Book) {
		t.Fatal("P6.14: CheckCert:", c)
	}
	stands, e := sharp.Stands(b, c)
	part, f := sharp.Part(c.Book, b)
	if e != api.OK || f != api.OK || stands != part {
		t.Fatal("P6.9: Stands, Part:", b, c, stands, part, e, f)
	}
	if stands && !bounds(b) {
		t.Fatal("P6.14: Stands:", b, c)
	}
}
