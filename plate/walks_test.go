package plate_test

import (
	"math/rand"
	"slices"
	"testing"

	"wringing/api"
	"wringing/plate"
)

func TestFollow(t *testing.T) {
	s := shop(3, 4, work(0, 1, 1), work(1, 2, 4), work(0, 1, 0))
	there := slices.Repeat([]int{0, -1}, api.MaxWalk/2)
	for i, c := range []struct {
		plate int
		walk  []int
		to    int
		sign  api.Sign
		e     api.Errno
	}{
		{0, nil, 0, sign(0, false), api.OK},
		{3, nil, 3, sign(0, false), api.OK},
		{0, []int{0}, 1, sign(1, true), api.OK},
		{1, []int{-1}, 0, sign(3, true), api.OK},
		{0, []int{0, 1}, 2, sign(5, false), api.OK},
		{2, []int{-2, -1}, 0, sign(5, false), api.OK},
		{2, []int{-2, -3}, 0, sign(4, false), api.OK},
		{0, []int{0, -3}, 0, sign(1, false), api.OK},
		{0, []int{2, -1}, 0, sign(3, false), api.OK},
		{0, []int{0, -3, 0, -3, 0}, 1, sign(3, true), api.OK},
		{0, there, 0, sign(0, false), api.OK},
		{0, append(there[:len(there):len(there)], 0), 0, api.Sign{}, api.ErrLimit},
		{0, slices.Repeat([]int{77}, api.MaxWalk+1), 0, api.Sign{}, api.ErrLimit},
		{0, slices.Repeat([]int{77}, api.MaxWalk), 0, api.Sign{}, api.ErrArg},
		{0, []int{3}, 0, api.Sign{}, api.ErrArg},
		{0, []int{-4}, 0, api.Sign{}, api.ErrArg},
		{0, []int{leastInt}, 0, api.Sign{}, api.ErrArg},
		{0, []int{mostInt}, 0, api.Sign{}, api.ErrArg},
		{0, []int{1, 3}, 0, api.Sign{}, api.ErrArg}, // the whole list is looked through before it is followed
		{0, []int{1}, 0, api.Sign{}, api.ErrProof},
		{0, []int{-1}, 0, api.Sign{}, api.ErrProof},
		{0, []int{0, 0}, 0, api.Sign{}, api.ErrProof},
		{0, []int{0, 1, 1}, 0, api.Sign{}, api.ErrProof},
		{3, []int{0}, 0, api.Sign{}, api.ErrProof},
	} {
		if to, at, e := plate.Follow(s, c.plate, c.walk); to != c.to || at != c.sign || e != c.e {
			t.Error("P3.4: Follow:", i, to, at, e)
		}
	}
	if to, at, e := plate.Follow(shop(1, 1), 0, []int{0}); to != 0 || at != (api.Sign{}) || e != api.ErrArg {
		t.Error("P3.4: Follow without workings:", to, at, e)
	}
}

func TestReach(t *testing.T) {
	s := shop(2, 6, work(4, 1, 0), work(3, 1, 2), work(5, 2, 1), work(2, 5, 7))
	for which, want := range [][]int{{0}, {1, 3, 4}, {2, 5}, {1, 3, 4}, {1, 3, 4}, {2, 5}} {
		if l, e := plate.Reach(s, which); !slices.Equal(l, want) || e != api.OK {
			t.Error("P3.5: Reach:", which, l, e)
		}
	}
	for _, s := range shops(100, 3, 6) {
		for which := range s.Plates {
			found := map[int]bool{which: true}
			for range s.Plates {
				for _, w := range s.Workings {
					if found[w.A] || found[w.B] {
						found[w.A], found[w.B] = true, true
					}
				}
			}
			var want []int
			for other := range s.Plates {
				if found[other] {
					want = append(want, other)
				}
			}
			if l, e := plate.Reach(s, which); !slices.Equal(l, want) || e != api.OK {
				t.Fatal("P3.5: Reach:", s, which, l, e)
			}
		}
	}
}

func TestSignsExamples(t *testing.T) {
	quarters := []api.Sign{sign(0, false), sign(1, false), sign(2, false), sign(3, false), sign(4, true), sign(5, true), sign(6, true), sign(7, true)}
	for i, c := range []struct {
		s    api.Shop
		want []api.Sign
	}{
		{straight(), []api.Sign{sign(0, false), sign(0, true)}},
		{twisted(), []api.Sign{sign(0, false), sign(4, true)}},
		{crossed(), quarters},
		{shop(2, 3), []api.Sign{sign(0, false)}},
		{shop(2, 3, work(1, 2, 0), work(1, 2, 3)), []api.Sign{sign(0, false)}}, // other plates
		{shop(6, 2, work(1, 0, 5), work(0, 1, 5)), []api.Sign{sign(0, false)}},
		{shop(1, 2, work(1, 0, 4), work(0, 1, 5)), quarters[:4]}, // turns are told apart on a single cell, too
		{shop(2, 3, work(0, 1, 1), work(1, 2, 0), work(2, 0, 0)), []api.Sign{sign(0, false), sign(1, true), sign(2, false), sign(3, true)}},
	} {
		if l := signs(t, c.s, 0); !slices.Equal(l, c.want) {
			t.Error("P3.5: Signs:", i, l)
		}
	}
}

func TestSigns(t *testing.T) {
	for _, s := range shops(400, 3, 6) {
		for which := range s.Plates {
			if l := signs(t, s, which); !slices.Equal(l, signsOf(s, which)) {
				t.Fatal("P3.5: Signs:", s, which, l)
			}
		}
	}
}

func TestWalkExamples(t *testing.T) {
	for i, c := range []struct {
		s    api.Shop
		from int
		sign api.Sign
		want []int
		e    api.Errno
	}{
		{straight(), 0, sign(0, false), nil, api.OK},
		{straight(), 0, sign(0, true), []int{-3, -2, -1}, api.OK}, // less than 0 1 2 as a list
		{straight(), 1, sign(0, true), []int{-1, -3, -2}, api.OK},
		{twisted(), 0, sign(4, true), []int{-3, -2, -1}, api.OK},
		{crossed(), 0, sign(1, false), []int{3, -1}, api.OK},
		{crossed(), 0, sign(3, false), []int{0, -4}, api.OK},
		{twisted(), 0, sign(4, false), nil, api.ErrNone},
		{twisted(), 0, sign(0, true), nil, api.ErrNone},
		{twisted(), 0, sign(-1, false), nil, api.ErrArg},
		{twisted(), 0, sign(8, true), nil, api.ErrArg},
		{twisted(), 0, sign(leastInt, true), nil, api.ErrArg},
		{twisted(), 0, sign(mostInt, false), nil, api.ErrArg},
		{shop(2, 1), 0, sign(0, false), nil, api.OK},
		{shop(2, 1), 0, sign(0, true), nil, api.ErrNone},
		{shop(2, 2, work(0, 1, 2), work(0, 1, 2), work(0, 1, 3)), 0, sign(1, false), []int{2, -2}, api.OK},
		{shop(2, 2, work(0, 1, 2), work(0, 1, 2), work(0, 1, 3)), 1, sign(1, false), []int{-2, 2}, api.OK},
	} {
		if l, e := plate.Walk(c.s, c.from, c.sign); !slices.Equal(l, c.want) || e != c.e {
			t.Error("P3.6: Walk:", i, l, e)
		}
	}
}

// firstWalk tries all walks with that many steps, from the first one on, and returns the first closed one with a sign.
func firstWalk(s api.Shop, from, steps int, wanted api.Sign) ([]int, bool) {
	var walk []int
	var try func(at, left int) bool
	try = func(at, left int) bool {
		if left == 0 {
			to, got, _ := ends(s, from, walk)
			return to == from && got == wanted
		}
		for step := -len(s.Workings); step < len(s.Workings); step++ {
			to, _, ok := ends(s, at, []int{step})
			if !ok {
				continue
			}
			walk = append(walk, step)
			if try(to, left-1) {
				return true
			}
			walk = walk[:len(walk)-1]
		}
		return false
	}
	ok := try(from, steps)
	return walk, ok
}

func TestWalkIsTheFirstOne(t *testing.T) {
	r := rand.New(rand.NewSource(7))
	for range 60 {
		s := randomShop(r, 2, 2+r.Intn(3), r.Intn(5))
		from := r.Intn(s.Plates)
		for wanted := range all() {
			l, e := plate.Walk(s, from, wanted)
			for steps := range 7 {
				want, ok := firstWalk(s, from, steps, wanted)
				if !ok && e == api.OK && len(l) == steps {
					t.Fatal("P3.6: Walk: none has so few steps:", s, from, wanted, l)
				}
				if !ok {
					continue
				}
				if !slices.Equal(l, want) || e != api.OK {
					t.Fatal("P3.6: Walk:", s, from, wanted, l, e, want)
				}
				break
			}
		}
	}
}

// TestWalkThroughALongShop has a sign whose walks go through all plates and back.
func TestWalkThroughALongShop(t *testing.T) {
	s := shop(2, 6, work(1, 0, 0), work(1, 2, 3), work(3, 2, 5), work(3, 4, 0), work(5, 4, 7), work(4, 5, 2))
	l, e := plate.Walk(s, 0, sign(after(undo(3), after(5, after(after(undo(7), undo(2)), after(undo(5), 3)))), false))
	if e != api.OK || len(l) != 10 {
		t.Error("P3.6: Walk:", l, e)
	}
	for wanted := range all() {
		l, e := plate.Walk(s, 0, wanted)
		has := slices.Contains(signsOf(s, 0), wanted)
		if has != (e == api.OK) || !has && (e != api.ErrNone || len(l) != 0) {
			t.Error("P3.6: Walk:", wanted, l, e)
		}
	}
}

func TestWalkHasItsSign(t *testing.T) {
	for _, s := range shops(300, 3, 6) {
		for from := range s.Plates {
			has := signs(t, s, from)
			for wanted := range all() {
				l, e := plate.Walk(s, from, wanted)
				if !slices.Contains(has, wanted) {
					if len(l) != 0 || e != api.ErrNone {
						t.Fatal("P3.17: Walk with a sign that the plate has not:", s, from, wanted, l, e)
					}
					continue
				}
				to, got, f := plate.Follow(s, from, l)
				if e != api.OK || f != api.OK || to != from || got != wanted {
					t.Fatal("P3.17: Follow of Walk:", s, from, wanted, l, e, to, got, f)
				}
			}
		}
	}
}

func TestSignsAreAGroup(t *testing.T) {
	for _, s := range shops(200, 3, 6) {
		for from := range s.Plates {
			l := signs(t, s, from)
			for _, a := range l {
				back, _ := plate.Inverse(a.Turn)
				if !slices.Contains(l, sign(back, a.Minus)) {
					t.Fatal("P3.17: Signs has no inverse:", s, from, a)
				}
				for _, b := range l {
					if !slices.Contains(l, both(a, b)) {
						t.Fatal("P3.17: Signs has no composition:", s, from, a, b)
					}
				}
			}
			others, _ := plate.Reach(s, from)
			for _, other := range others {
				if len(signs(t, s, other)) != len(l) {
					t.Fatal("P3.17: Signs of plates that are connected:", s, from, other)
				}
			}
		}
	}
}

func TestFollowIsComposition(t *testing.T) {
	r := rand.New(rand.NewSource(8))
	for _, s := range shops(300, 3, 6) {
		from := r.Intn(s.Plates)
		first, at := randomWalk(r, s, from)
		second, end := randomWalk(r, s, at)
		toA, a, e := plate.Follow(s, from, first)
		toB, b, f := plate.Follow(s, at, second)
		to, whole, g := plate.Follow(s, from, slices.Concat(first, second))
		if e != api.OK || f != api.OK || g != api.OK || toA != at || toB != end || to != end || whole != both(a, b) {
			t.Fatal("P3.17: Follow:", s, from, first, second, a, b, whole)
		}
		if to, got, ok := ends(s, from, first); !ok || to != toA || got != a {
			t.Fatal("P3.4: Follow:", s, from, first, toA, a, to, got)
		}
	}
}

// randomWalk returns a walk from a plate, and the plate to which it leads.
func randomWalk(r *rand.Rand, s api.Shop, at int) ([]int, int) {
	var walk []int
	for range r.Intn(200) {
		if len(s.Workings) == 0 || len(walk) == api.MaxWalk/2 {
			break
		}
		step := r.Intn(2*len(s.Workings)) - len(s.Workings)
		if to, _, ok := ends(s, at, []int{step}); ok {
			walk, at = append(walk, step), to
		}
	}
	return walk, at
}
