package chain_test

import (
	"math/rand"
	"slices"
	"testing"

	"wringing/api"
	"wringing/chain"
)

// solutions returns all solutions with values from -most to most.
func solutions(s api.System, most int) [][]int {
	var l [][]int
	boxed(s.Nodes, most, func(x []int) {
		if solves(s, x) {
			l = append(l, slices.Clone(x))
		}
	})
	return l
}

func TestSolutionsOrChain(t *testing.T) {
	for _, s := range smallSystems(500) {
		// A small system has a solution with small values if it has any.
		ok := isConsistent(t, s)
		if s.Nodes <= 3 && ok != (len(solutions(s, 12)) > 0) {
			t.Fatal("P2.15: Consistent:", s, ok)
		}
		if _, found := firstList(s, s.Nodes, func(l []int) bool { return closedBelow(s, l) }); found == ok {
			t.Fatal("P2.15: Consistent:", s, ok)
		}
	}
	for _, s := range largeSystems(30) {
		l, e := chain.Clash(s)
		if (e == api.OK) == isConsistent(t, s) {
			t.Fatal("P2.15: Clash:", s, e)
		}
		if e != api.OK {
			continue
		}
		if f := chain.CheckClash(s, l); f != api.OK || len(l) > s.Nodes || len(l) > leastClash(s) {
			t.Fatal("P2.15, P2.16: Clash:", s, l, f)
		}
	}
}

// leastClash returns the fewest links of a closed chain below 0, by the least sums of all chains of one link more each time.
func leastClash(s api.System) int {
	d := make([][]int, s.Nodes)
	for i := range d {
		d[i] = slices.Repeat([]int{api.Free}, s.Nodes)
		d[i][i] = 0
	}
	for n := 1; ; n++ {
		for i := range d {
			next := slices.Repeat([]int{api.Free}, s.Nodes)
			for _, l := range s.Links {
				if d[i][l.From] != api.Free {
					next[l.To] = min(next[l.To], d[i][l.From]+l.Most)
				}
			}
			d[i] = next
		}
		for i := range d {
			if d[i][i] < 0 {
				return n
			}
		}
	}
}

func TestCheckClashIsSound(t *testing.T) {
	r := rand.New(rand.NewSource(5))
	for _, s := range smallSystems(300) {
		ok := isConsistent(t, s)
		for range 100 {
			l := make([]int, r.Intn(6))
			for i := range l {
				l[i] = r.Intn(len(s.Links) + 1)
			}
			e := chain.CheckClash(s, l)
			if (e == api.OK) != (closedBelow(s, l) && !slices.Contains(l, len(s.Links))) || e == api.OK && ok {
				t.Fatal("P2.3, P2.15: CheckClash:", s, l, e)
			}
		}
	}
}

func TestBoundsAreSharp(t *testing.T) {
	for _, s := range smallSystems(150) {
		if !isConsistent(t, s) || s.Nodes > 3 {
			continue
		}
		d := bounds(t, s)
		all := solutions(s, 12)
		for from := range d {
			for to := range d {
				if d[from][to] == api.Free {
					continue
				}
				reached := false
				for _, x := range all {
					reached = reached || x[to]-x[from] == d[from][to]
					if x[to]-x[from] > d[from][to] {
						t.Fatal("P2.16:", s, from, to, x)
					}
				}
				if !reached {
					t.Fatal("P2.16: no solution reaches the bound:", s, from, to)
				}
			}
		}
	}
}

func TestChainsProveBounds(t *testing.T) {
	for _, s := range slices.Concat(smallSystems(200), largeSystems(6)) {
		if !isConsistent(t, s) {
			continue
		}
		d := bounds(t, s)
		for from := 0; from < s.Nodes; from += 1 + s.Nodes/9 {
			for to := range d {
				l, e := chain.Chain(s, from, to)
				if d[from][to] == api.Free {
					if e != api.ErrNone {
						t.Fatal("P2.5: Chain:", s, from, to, e)
					}
					continue
				}
				n, f := chain.CheckChain(s, from, to, l)
				if e != api.OK || f != api.OK || n != d[from][to] || len(l) > s.Nodes-1 {
					t.Fatal("P2.16: Chain:", s, from, to, l, e, n, f)
				}
			}
		}
	}
}

func TestCheckChainIsSound(t *testing.T) {
	r := rand.New(rand.NewSource(6))
	for _, s := range smallSystems(300) {
		ok := isConsistent(t, s)
		for range 100 {
			l := make([]int, r.Intn(5))
			for i := range l {
				l[i] = r.Intn(max(len(s.Links), 1))
			}
			from, to := r.Intn(s.Nodes), r.Intn(s.Nodes)
			n, e := chain.CheckChain(s, from, to, l)
			want, is := sumOf(s, from, to, l)
			if is && (n != want || e != api.OK) || !is && (n != 0 || e == api.OK) {
				t.Fatal("P2.6: CheckChain:", s, from, to, l, n, e)
			}
			if is && ok && n < bounds(t, s)[from][to] {
				t.Fatal("P2.16: CheckChain:", s, from, to, l, n)
			}
		}
	}
}

func TestTightIsClosed(t *testing.T) {
	for _, s := range slices.Concat(smallSystems(400), largeSystems(12)) {
		if !isConsistent(t, s) {
			continue
		}
		d := bounds(t, s)
		for u := range d {
			for v := range d {
				for w := range d {
					if d[u][v] != api.Free && d[v][w] != api.Free && d[u][w] > d[u][v]+d[v][w] {
						t.Fatal("P2.17: Tight:", s, u, v, w)
					}
				}
			}
		}
		greatest, e := chain.Greatest(s)
		least, f := chain.Least(s)
		if e == api.OK && !solves(s, greatest) || f == api.OK && !solves(s, least) {
			t.Fatal("P2.17: Greatest, Least:", s, greatest, least)
		}
	}
}

// combined is the list of what a function makes of the elements of two lists.
func combined(x, y []int, f func(a, b int) int) []int {
	l := make([]int, len(x))
	for i := range l {
		l[i] = f(x[i], y[i])
	}
	return l
}

func TestSolutionsLieBetween(t *testing.T) {
	for _, s := range smallSystems(150) {
		if !isConsistent(t, s) || s.Nodes > 3 {
			continue
		}
		all := solutions(s, 7)
		greatest, e := chain.Greatest(s)
		least, f := chain.Least(s)
		spans, g := chain.Spans(s)
		for i, x := range all {
			for node := range x {
				if e == api.OK && x[node] > greatest[node] || f == api.OK && x[node] < least[node] || g != api.OK || x[node] < spans[node].Lo || x[node] > spans[node].Hi {
					t.Fatal("P2.17:", s, x)
				}
			}
			for _, y := range all[max(0, i-20):i] {
				for _, z := range [][]int{combined(x, y, func(a, b int) int { return max(a, b) }), combined(x, y, func(a, b int) int { return min(a, b) })} {
					if ok, e := chain.Fits(s, z); !ok || e != api.OK {
						t.Fatal("P2.17: the greater or lesser ones:", s, x, y)
					}
				}
			}
		}
	}
}

func TestOneLinkMore(t *testing.T) {
	r := rand.New(rand.NewSource(7))
	for _, s := range slices.Concat(smallSystems(400), largeSystems(12)) {
		if s.Nodes == 1 || len(s.Links) == api.MaxLinks {
			continue
		}
		extra := randomSystem(r, s.Nodes, 1, 6).Links[0]
		more, e := chain.With(s, []api.Link{extra})
		if e != api.OK {
			t.Fatal("P2.18: With:", s, extra, e)
		}
		if !isConsistent(t, s) {
			if isConsistent(t, more) {
				t.Fatal("P2.18: consistent with a link more:", s, extra)
			}
			continue
		}
		d := bounds(t, s)
		back := d[extra.To][extra.From]
		want := back == api.Free || extra.Most+back >= 0
		if isConsistent(t, more) != want {
			t.Fatal("P2.18: Consistent:", s, extra)
		}
		if !want {
			continue
		}
		for u, row := range bounds(t, more) {
			for v, bound := range row {
				old := d[u][v]
				if d[u][extra.From] != api.Free && d[extra.To][v] != api.Free {
					old = min(old, d[u][extra.From]+extra.Most+d[extra.To][v])
				}
				if bound != old {
					t.Fatal("P2.18: new bound:", s, extra, u, v, bound)
				}
			}
		}
	}
}

func TestLesserMost(t *testing.T) {
	r := rand.New(rand.NewSource(8))
	for _, s := range slices.Concat(smallSystems(300), largeSystems(12)) {
		if len(s.Links) == 0 {
			continue
		}
		less := loosen(s, r.Intn(len(s.Links)), -r.Intn(3))
		if !isConsistent(t, s) {
			if isConsistent(t, less) {
				t.Fatal("P2.18: consistent with a lesser Most:", s, less)
			}
			continue
		}
		if !isConsistent(t, less) {
			continue
		}
		d := bounds(t, s)
		for u, row := range bounds(t, less) {
			for v, bound := range row {
				if bound > d[u][v] {
					t.Fatal("P2.18: a bound is greater with a lesser Most:", s, less, u, v)
				}
			}
		}
	}
}

func TestReducedSystem(t *testing.T) {
	for _, s := range slices.Concat(smallSystems(300), largeSystems(5)) {
		if !isConsistent(t, s) {
			continue
		}
		left, e := chain.Reduce(s)
		if e != api.OK || !slices.IsSorted(left) {
			t.Fatal("P2.12: Reduce:", s, left, e)
		}
		few := system(s.Nodes)
		for _, i := range left {
			few.Links = append(few.Links, s.Links[i])
		}
		d := bounds(t, s)
		if !sameTable(bounds(t, few), d) {
			t.Fatal("P2.18: bounds with the links of Reduce:", s, left)
		}
		for i := 0; i < len(left); i += 1 + len(left)/20 {
			if sameTable(bounds(t, without(few, i)), d) {
				t.Fatal("P2.18: a link of Reduce is idle:", s, left, i)
			}
		}
	}
}

// mapped returns, in increasing order, what the indices become.
func mapped(l, to []int) []int {
	m := make([]int, len(l))
	for i, x := range l {
		m[i] = to[x]
	}
	slices.Sort(m)
	return m
}

func TestOrderOfLinks(t *testing.T) {
	r := rand.New(rand.NewSource(9))
	for _, s := range slices.Concat(smallSystems(300), largeSystems(6)) {
		to := r.Perm(len(s.Links))
		p := system(s.Nodes, make([]api.Link, len(s.Links))...)
		for i, l := range s.Links {
			p.Links[to[i]] = l
		}
		ok := isConsistent(t, s)
		if isConsistent(t, p) != ok {
			t.Fatal("P2.19: Consistent:", s, p)
		}
		a, e := chain.Suspects(s)
		b, f := chain.Suspects(p)
		if !slices.Equal(mapped(a, to), b) || e != f {
			t.Fatal("P2.19: Suspects:", s, p, a, b)
		}
		if !ok {
			a, _ := chain.Clash(s)
			b, _ := chain.Clash(p)
			if len(a) != len(b) {
				t.Fatal("P2.19: Clash:", s, p, a, b)
			}
			continue
		}
		if !sameTable(bounds(t, s), bounds(t, p)) {
			t.Fatal("P2.19: Tight:", s, p)
		}
		a, e = chain.Idle(s)
		b, f = chain.Idle(p)
		if !slices.Equal(mapped(a, to), b) || e != f {
			t.Fatal("P2.19: Idle:", s, p, a, b)
		}
		for i := range s.Links {
			n, e := chain.Slack(s, i)
			if m, f := chain.Slack(p, to[i]); n != m || e != f {
				t.Fatal("P2.19: Slack:", s, p, i, n, m)
			}
		}
		a, _ = chain.Chain(s, 0, s.Nodes-1)
		b, _ = chain.Chain(p, 0, s.Nodes-1)
		if len(a) != len(b) {
			t.Fatal("P2.19: Chain:", s, p, a, b)
		}
	}
}

func TestDifferencesBetween(t *testing.T) {
	for _, s := range smallSystems(120) {
		if !isConsistent(t, s) || s.Nodes > 3 {
			continue
		}
		d := bounds(t, s)
		all := solutions(s, 12)
		for from := range d {
			for to := range d {
				if d[from][to] == api.Free || d[to][from] == api.Free {
					continue
				}
				seen := map[int]bool{}
				for _, x := range all {
					seen[x[to]-x[from]] = true
				}
				for n := -d[to][from]; n <= d[from][to]; n++ {
					if !seen[n] {
						t.Fatal("P2.20: no solution has the difference:", s, from, to, n)
					}
					// And the package itself finds it possible.
					if !isConsistent(t, system(s.Nodes, append(slices.Clone(s.Links), fixed(from, to, n)...)...)) {
						t.Fatal("P2.20:", s, from, to, n)
					}
				}
				if len(seen) != d[from][to]+d[to][from]+1 {
					t.Fatal("P2.20: another difference:", s, from, to)
				}
			}
		}
	}
}

// fixed are links that make two nodes differ by a number.
func fixed(from, to, n int) []api.Link {
	if from == to {
		return nil
	}
	return []api.Link{link(from, to, n), link(to, from, -n)}
}

func TestShifted(t *testing.T) {
	r := rand.New(rand.NewSource(10))
	for _, s := range slices.Concat(smallSystems(300), largeSystems(8)) {
		shift := make([]int, s.Nodes)
		for node := range shift[1:] {
			shift[node+1] = r.Intn(2001) - 1000
		}
		moved := system(s.Nodes, slices.Clone(s.Links)...)
		for i, l := range s.Links {
			moved.Links[i].Most += shift[l.To] - shift[l.From]
		}
		ok := isConsistent(t, s)
		a, e := chain.Clash(s)
		b, f := chain.Clash(moved)
		if isConsistent(t, moved) != ok || !slices.Equal(a, b) || e != f {
			t.Fatal("P2.21: shifted: Consistent, Clash:", s, shift, a, b)
		}
		if !ok {
			continue
		}
		d := bounds(t, moved)
		for from, row := range bounds(t, s) {
			for to, bound := range row {
				if bound != api.Free {
					bound += shift[to] - shift[from]
				}
				if d[from][to] != bound {
					t.Fatal("P2.21: shifted: Tight:", s, shift, from, to)
				}
			}
		}
		for to := 0; to < s.Nodes; to += 1 + s.Nodes/4 {
			a, e := chain.Chain(s, s.Nodes-1, to)
			b, f := chain.Chain(moved, s.Nodes-1, to)
			if !slices.Equal(a, b) || e != f {
				t.Fatal("P2.21: shifted: Chain:", s, shift, a, b)
			}
		}
		plus := func(a, b int) int { return a + b }
		a, e = chain.Greatest(s)
		b, f = chain.Greatest(moved)
		if e != f || e == api.OK && !slices.Equal(combined(a, shift, plus), b) {
			t.Fatal("P2.21: shifted: Greatest:", s, shift, a, b)
		}
	}
}

func TestTurned(t *testing.T) {
	for _, s := range slices.Concat(smallSystems(300), largeSystems(8)) {
		back := system(s.Nodes)
		for _, l := range s.Links {
			back.Links = append(back.Links, link(l.To, l.From, l.Most))
		}
		if isConsistent(t, back) != isConsistent(t, s) {
			t.Fatal("P2.21: turned: Consistent:", s)
		}
		if s.Nodes <= 3 {
			for _, x := range solutions(s, 5) {
				for i := range x {
					x[i] = -x[i]
				}
				if ok, e := chain.Fits(back, x); !ok || e != api.OK {
					t.Fatal("P2.21: turned: Fits:", s, x)
				}
			}
		}
		x, e := chain.Greatest(s)
		y, f := chain.Least(back)
		for i := range y {
			y[i] = -y[i]
		}
		if !slices.Equal(x, y) || e != f {
			t.Fatal("P2.21: turned: Greatest, Least:", s, x, y)
		}
	}
}
