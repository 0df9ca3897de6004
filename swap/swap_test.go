package swap_test

import (
	"slices"
	"testing"

	"wringing/api"
	"wringing/compare"
	"wringing/swap"
)

func TestCheck(t *testing.T) {
	made := func(m *api.Mixed) { m.Book.Gauges[2].Made = 13 }
	for i, c := range []struct {
		change func(m *api.Mixed)
		e      api.Errno
	}{
		{func(m *api.Mixed) {}, api.OK},
		{func(m *api.Mixed) { m.Mixes = nil }, api.OK},
		{func(m *api.Mixed) { *m = api.Mixed{} }, api.OK},
		{func(m *api.Mixed) { m.Book.Film = span(3, 2) }, api.ErrArg},
		{func(m *api.Mixed) { m.Book.Gauges[1].ID = 1 }, api.ErrTwice},
		{func(m *api.Mixed) { m.Book.Uses[0].Gauge = 4 }, api.ErrNone},
		{func(m *api.Mixed) { m.Mixes[0].Day = -1 }, api.ErrArg},
		{func(m *api.Mixed) { m.Mixes[0].Day = 0 }, api.OK},
		{func(m *api.Mixed) { m.Mixes[0].Day = api.MaxDay - 1 }, api.OK},
		{func(m *api.Mixed) { m.Mixes[0].Day = api.MaxDay }, api.ErrArg},
		{func(m *api.Mixed) { m.Mixes[0].Day = mostInt }, api.ErrArg},
		{func(m *api.Mixed) { m.Mixes[0].Labels = nil }, api.ErrArg},
		{func(m *api.Mixed) { m.Mixes[0].Labels = []int{2} }, api.ErrArg},
		{func(m *api.Mixed) { m.Mixes[0].Labels = []int{3, 2} }, api.ErrArg},
		{func(m *api.Mixed) { m.Mixes[0].Labels = []int{2, 2} }, api.ErrArg},
		{func(m *api.Mixed) { m.Mixes[0].Labels = []int{1, 2, 3} }, api.OK},
		{func(m *api.Mixed) { m.Mixes[0].Labels = []int{1, 3, 2} }, api.ErrArg},
		{func(m *api.Mixed) { m.Mixes[0].Labels = []int{1, 2, 3, 4, 5, 6} }, api.ErrArg},
		{func(m *api.Mixed) { m.Mixes[0].Labels = []int{1, 2, 3, 4} }, api.ErrNone},
		{func(m *api.Mixed) { m.Mixes[0].Labels = []int{0, 2} }, api.ErrNone},
		{func(m *api.Mixed) { m.Mixes[0].Labels = []int{leastInt, mostInt} }, api.ErrNone},
		{made, api.ErrState},
		{func(m *api.Mixed) { made(m); m.Mixes[0].Day = 13 }, api.OK},
		{func(m *api.Mixed) { made(m); m.Mixes[0].Labels = []int{1, 2} }, api.OK},
		{func(m *api.Mixed) { m.Mixes = append(m.Mixes, mix(12, 1, 2)) }, api.ErrTwice},
		{func(m *api.Mixed) { m.Mixes = append(m.Mixes, mix(11, 1, 2)) }, api.ErrTwice},
		{func(m *api.Mixed) { m.Mixes = append(m.Mixes, mix(13, 1, 2)) }, api.OK},
		{func(m *api.Mixed) { m.Mixes = []api.Mix{mix(1, 1, 2), mix(2, 1, 2), mix(3, 1, 2), mix(4, 1, 2)} }, api.OK},
		{func(m *api.Mixed) { m.Mixes = make([]api.Mix, 5) }, api.ErrLimit},
		// The gauge 1 is away from 20 to 29.
		{func(m *api.Mixed) { m.Mixes[0] = mix(18, 1, 2) }, api.OK},
		{func(m *api.Mixed) { m.Mixes[0] = mix(19, 1, 2) }, api.ErrClash},
		{func(m *api.Mixed) { m.Mixes[0] = mix(20, 1, 2) }, api.ErrClash},
		{func(m *api.Mixed) { m.Mixes[0] = mix(25, 1, 2) }, api.ErrClash},
		{func(m *api.Mixed) { m.Mixes[0] = mix(29, 1, 2) }, api.ErrClash},
		{func(m *api.Mixed) { m.Mixes[0] = mix(30, 1, 2) }, api.OK},
		{func(m *api.Mixed) { m.Mixes[0] = mix(25, 2, 3) }, api.OK},
		{func(m *api.Mixed) { m.Book.Loans = []api.Loan{loan(3, 12, 12, 0)} }, api.ErrClash},
		{func(m *api.Mixed) { m.Book.Loans = []api.Loan{loan(3, 13, 13, 0)} }, api.ErrClash},
		{func(m *api.Mixed) { m.Book.Loans = []api.Loan{loan(3, 14, 14, 0), loan(2, 11, 11, 0)} }, api.OK},
		// It is the label that is away, whatever gauge bears it.
		{func(m *api.Mixed) { m.Mixes = []api.Mix{mix(12, 1, 2), mix(25, 2, 3)} }, api.OK},
		{func(m *api.Mixed) { m.Mixes = []api.Mix{mix(12, 2, 3), mix(25, 1, 3)} }, api.ErrClash},
	} {
		m := changed(example(), c.change)
		if e := swap.Check(m); e != c.e {
			t.Error("P7.1: Check:", i, e)
		}
	}
}

// TestCheckCountsWays tries all sizes of mix-ups.
func TestCheckCountsWays(t *testing.T) {
	accepted := 0
	sizes := []int{0, 0, 0, 0}
	for {
		m, ways, any := box(5), 1, false
		gap := false
		for i, size := range sizes {
			if size == 0 {
				gap = true
				continue
			}
			any = any || gap
			m.Mixes = append(m.Mixes, mix(i, []int{1, 2, 3, 4, 5}[:size]...))
			ways *= []int{0, 1, 2, 6, 24, 120}[size]
		}
		want := api.OK
		if ways > api.MaxWays {
			want = api.ErrLimit
		}
		if e := swap.Check(m); e != want {
			t.Fatal("P7.1: Check:", sizes, ways, e)
		}
		if want == api.OK && !any {
			accepted++
			if l, e := swap.Ways(m); len(l) != ways || e != api.OK {
				t.Fatal("P7.2: Ways:", sizes, ways, len(l), e)
			}
		}
		at := 0
		for ; at < 4 && sizes[at] == 5; at++ {
			sizes[at] = 0
		}
		if at == 4 {
			break
		}
		sizes[at] = max(2, sizes[at]+1)
	}
	if accepted < 20 {
		t.Error("too few cases:", accepted)
	}
}

// TestOrderOfCheck makes everything fail at once, and then repairs one thing after the other.
func TestOrderOfCheck(t *testing.T) {
	m := box(6, mix(0), mix(-1), mix(8, 1, 2), mix(9, 1, 2), mix(10))
	m.Book.Film = span(1, 0)
	m.Book.Gauges[4].Made = 3
	m.Book.Loans = []api.Loan{loan(5, 5, 6, 0), loan(4, 0, 3, 0)}
	for i, c := range []struct {
		e      api.Errno
		repair func()
	}{
		{api.ErrArg, func() { m.Book.Film = span(0, 0) }},
		{api.ErrLimit, func() { m.Mixes = m.Mixes[:4] }},
		{api.ErrArg, func() { m.Mixes[0].Labels = []int{1, 2, 3, 4, 7} }},
		{api.ErrNone, func() { m.Mixes[0].Labels = []int{1, 2, 3, 5, 7} }},
		{api.ErrNone, func() { m.Mixes[0].Labels = []int{1, 2, 3, 4, 5} }},
		{api.ErrState, func() { m.Mixes[0].Labels = []int{1, 2, 3, 4} }},
		{api.ErrClash, func() { m.Mixes[0].Labels = []int{1, 2, 3, 6} }},
		{api.ErrArg, func() { m.Mixes[1] = mix(0, 3, 2, 7) }},
		{api.ErrArg, func() { m.Mixes[1] = mix(0, 2, 5, 7) }},
		{api.ErrNone, func() { m.Mixes[1] = mix(0, 2, 5) }},
		{api.ErrState, func() { m.Mixes[1] = mix(0, 2, 4) }},
		{api.ErrTwice, func() { m.Mixes[1].Day = 1 }},
		{api.ErrClash, func() { m.Mixes[1] = mix(4, 1, 5) }},
		{api.ErrClash, func() { m.Mixes[1] = mix(7, 1, 2, 4, 5) }},
		{api.ErrLimit, func() { m.Mixes[0].Labels = []int{1, 2} }},
		{api.ErrLimit, func() { m.Mixes = m.Mixes[:3] }},
		{api.OK, func() {}},
	} {
		if e := swap.Check(m); e != c.e {
			t.Error("P7.1, R3: Check:", i, e)
		}
		c.repair()
	}
}

func TestWith(t *testing.T) {
	for i, c := range []struct {
		x api.Mix
		e api.Errno
	}{
		{mix(13, 1, 2), api.OK},
		{mix(40, 1, 2, 3), api.OK},
		{mix(12, 1, 2), api.ErrTwice},
		{mix(13, 1), api.ErrArg},
		{mix(13, 1, 4), api.ErrNone},
		{mix(api.MaxDay, 1, 2), api.ErrArg},
		{mix(25, 1, 2), api.ErrClash},
		{api.Mix{}, api.ErrArg},
	} {
		want := api.Mixed{}
		if c.e == api.OK {
			want = changed(example(), func(m *api.Mixed) { m.Mixes = append(m.Mixes, c.x) })
		}
		if m, e := swap.With(example(), c.x); !same(m, want) || e != c.e {
			t.Error("P7.1: With:", i, m, e)
		}
	}
	many := box(4, mix(1, 1, 2), mix(2, 1, 2), mix(3, 1, 2), mix(4, 1, 2))
	if m, e := swap.With(many, mix(0)); !isNothing(m) || e != api.ErrLimit {
		t.Error("P7.1: With:", m, e)
	}
	large := box(5, mix(1, 1, 2, 3, 4))
	if m, e := swap.With(large, mix(2, 1, 2, 3)); len(m.Mixes) != 2 || e != api.OK {
		t.Error("P7.1: With:", m, e)
	}
	if m, e := swap.With(large, mix(2, 1, 2, 3, 4)); !isNothing(m) || e != api.ErrLimit {
		t.Error("P7.1: With:", m, e)
	}
	// The error of the case comes before that of the case with the mix-up.
	wrong := box(5, mix(1, 1, 2, 3, 4), mix(2, 1, 2, 3, 4))
	if m, e := swap.With(wrong, mix(0)); !isNothing(m) || e != api.ErrLimit {
		t.Error("P7.1: With:", m, e)
	}
}

func TestFilledIsValid(t *testing.T) {
	m := filled()
	if e := swap.Check(m); e != api.OK {
		t.Fatal("P7.1: Check:", e)
	}
	if nodes, e := compare.Nodes(m.Book); len(nodes) != api.MaxNodes-1 || e != api.OK {
		t.Error("P5.6: Nodes:", len(nodes), e)
	}
	if all, e := swap.All(m); len(all) != 144 || e != api.OK {
		t.Error("P7.4: All:", len(all), e)
	}
	coulds, e := swap.Coulds(m, 2, 200)
	if len(coulds) != 6 || e != api.OK {
		t.Error("P7.5: Coulds:", coulds, e)
	}
	if core, e := swap.Core(m); len(core) != 0 || e != api.ErrNone {
		t.Error("P7.7: Core:", core, e)
	}
	m.Book.Compares[33].Diff = 700
	if core, e := swap.Core(m); !slices.Equal(core, []int{34}) || e != api.OK {
		t.Error("P7.7: Core:", core, e)
	}
	chains, e := swap.Prove(m)
	if len(chains) != 144 || e != api.OK || swap.CheckProof(m, chains) != api.OK {
		t.Error("P7.8: Prove:", len(chains), e)
	}
}
