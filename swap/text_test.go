package swap_test

import (
	"math/rand"
	"slices"
	"strings"
	"testing"

	"wringing/api"
	"wringing/compare"
	"wringing/swap"
)

const bookText = "film 0 2\n" +
	"gauge 1 0 1000 -5 5 1 10 1\n" +
	"gauge 2 0 1000 -50 50 1 4 0\n" +
	"gauge 3 0 1100 -1 1 0 1 0\n" +
	"use 1 10\n" +
	"loan 1 20 29 3\n" +
	"compare 7 10 -20 1 100 200 a 1 b 2\n"

func TestPrintExamples(t *testing.T) {
	for i, c := range []struct {
		m    api.Mixed
		text string
	}{
		{api.Mixed{}, "film 0 0\n"},
		{example(), bookText + "mix 12 2 3\n"},
		{changed(example(), func(m *api.Mixed) { m.Mixes = nil }), bookText},
		{changed(example(), func(m *api.Mixed) { m.Mixes = append(m.Mixes, mix(api.MaxDay-1, 1, 2, 3)) }), bookText + "mix 12 2 3\nmix 19999 1 2 3\n"},
		{changed(example(), func(m *api.Mixed) { m.Book.Looks = []api.Node{node(2, 5)} }), bookText + "look 2 5\nmix 12 2 3\n"},
		{
			box(5, mix(0, 1, 2, 3, 4, 5)),
			"film 0 0\ngauge 1 0 100 -2 2 0 1 0\ngauge 2 0 110 -2 2 0 1 0\ngauge 3 0 120 -2 2 0 1 0\ngauge 4 0 130 -2 2 0 1 0\ngauge 5 0 140 -2 2 0 1 0\nmix 0 1 2 3 4 5\n",
		},
	} {
		if text, e := swap.Print(c.m); text != c.text || e != api.OK {
			t.Error("P7.10: Print:", i, text, e)
		}
		if m, e := swap.Parse(c.text); !same(m, c.m) || e != api.OK {
			t.Error("P7.10, P7.15: Parse:", i, m, e)
		}
	}
}

func TestPrintRefuses(t *testing.T) {
	for i, c := range []struct {
		change func(m *api.Mixed)
		e      api.Errno
	}{
		{func(m *api.Mixed) { m.Book.Film.Lo = 3 }, api.ErrArg},
		{func(m *api.Mixed) { m.Mixes[0].Labels = []int{3, 2} }, api.ErrArg},
		{func(m *api.Mixed) { m.Mixes[0].Labels = []int{3, 4} }, api.ErrNone},
		{func(m *api.Mixed) { m.Mixes = append(m.Mixes, m.Mixes[0]) }, api.ErrTwice},
	} {
		if text, e := swap.Print(changed(example(), c.change)); text != "" || e != c.e {
			t.Error("P7.10: Print:", i, text, e)
		}
	}
}

func TestParseRefuses(t *testing.T) {
	for i, text := range []string{
		"", "\n", "mix 12 2 3\n", "mix", "film", "film 0 0", "film 0 0\n\n", "film 0 0\nmix 0 1 2\n", "film 0 0\nmix\n", "film 0 0\nmix", "film 0 0\nmix ",
		bookText + "mix 12 2 3", bookText + "mix 12 2 3\n\n", bookText + "\nmix 12 2 3\n", bookText + "mix 12 2 3 \n", bookText + "mix 12  2 3\n",
		bookText + " mix 12 2 3\n", bookText + "mix  12 2 3\n", bookText + "mix\n", bookText + "mix \n", bookText + "mix 12\n", bookText + "mix 12 2\n",
		bookText + "mix 012 2 3\n", bookText + "mix +12 2 3\n", bookText + "mix 12 2 03\n", bookText + "mix 12 2 3x\n", bookText + "mix -0 2 3\n",
		bookText + "mix 12 3 2\n", bookText + "mix 12 2 2\n", bookText + "mix 12 2 4\n", bookText + "mix 25 1 2\n", bookText + "mix -1 2 3\n",
		bookText + "mix 20000 2 3\n", bookText + "mix 12 1 2 3 4 5 6\n", bookText + "mix 12 1 2 3 3\n", bookText + "mixed 12 2 3\n", bookText + "Mix 12 2 3\n",
		bookText + "mix2 2 3\n", bookText + "mix 12 2 3\nmix 12 2 3\n", bookText + "mix 13 2 3\nmix 12 2 3\n", bookText + "mix 12 2 3\nlook 2 5\n",
		bookText + "mix 12 2 3\n" + bookText, bookText + "mix 12 2 3\nmax 13 2 3\n", bookText + "mix 12 2 3\nmix 13 2 3", "mix 12 2 3\n" + bookText,
		bookText + "mix 1 2 3\nmix 2 2 3\nmix 3 2 3\nmix 4 2 3\nmix 5 2 3\n", bookText + strings.Repeat("mix 12 2 3\n", 5000),
		bookText + "mix 12" + strings.Repeat(" 2", 50000) + "\n", bookText + "mix 12 2 3\r\n", bookText + "mix 12 2 99999999999999999999\n",
		bookText + "mix 12\t2 3\n", bookText + "mix 12 2 3\n\x00", strings.Repeat("mix 12 2 3\n", 5000), bookText + "\xffmix 12 2 3\n",
	} {
		if m, e := swap.Parse(text); !isNothing(m) || e != api.ErrForm {
			t.Errorf("P7.10: Parse: %d: %.300q: %v %d", i, text, m, e)
		}
	}
	if _, e := swap.Parse(bookText + "mix 1 2 3\nmix 2 2 3\nmix 3 2 3\nmix 4 2 3\n"); e != api.OK {
		t.Error("P7.10: Parse:", e)
	}
}

func TestTextsOfCases(t *testing.T) {
	r := rand.New(rand.NewSource(76))
	for _, m := range append(cases(200, false), filled()) {
		text, e := swap.Print(m)
		book, _ := compare.Print(m.Book)
		if !strings.HasPrefix(text, book) || e != api.OK {
			t.Fatal("P7.10: Print:", m, text, e)
		}
		if again, e := swap.Parse(text); !same(again, m) || e != api.OK {
			t.Fatal("P7.15: Parse of Print:", m, again, e)
		}
		for range 10 {
			if text == "" {
				break
			}
			at := r.Intn(len(text))
			letter := "0123456789 -\nmixlokgue"[r.Intn(22)]
			other := text[:at] + string(letter) + text[at+r.Intn(2):]
			changed, e := swap.Parse(other)
			if e != api.OK {
				if !isNothing(changed) || e != api.ErrForm {
					t.Fatalf("P7.10: Parse: %q: %v %d", other, changed, e)
				}
				continue
			}
			if again, e := swap.Print(changed); again != other || e != api.OK {
				t.Fatalf("P7.15: Print of Parse: %q: %q %d", other, again, e)
			}
		}
	}
}

// TestTextsOfMixes tries all short mix-ups.
func TestTextsOfMixes(t *testing.T) {
	words := []string{"", "0", "1", "2", "3", "4", "12", "02", "-1"}
	base := box(4)
	book, _ := swap.Print(base)
	accepted := 0
	for _, day := range words {
		for _, a := range words {
			for _, b := range words {
				for _, c := range append([]string{"end"}, words...) {
					l := []string{"mix", day, a, b, c}
					if c == "end" {
						l = l[:4]
					}
					m, e := swap.Parse(book + strings.Join(l, " ") + "\n")
					plain := func(w string) bool { return slices.Contains([]string{"1", "2", "3", "4"}, w) }
					want := slices.Contains([]string{"0", "1", "2", "3", "4", "12"}, day) && plain(a) && plain(b) && a < b && (c == "end" || plain(c) && b < c)
					if (e == api.OK) != want || want && len(m.Mixes) != 1 {
						t.Fatal("P7.10: Parse:", l, m, e)
					}
					if want {
						accepted++
					}
				}
			}
		}
	}
	if accepted != 6*(6+4) {
		t.Error("P7.10: Parse: accepted mix-ups:", accepted)
	}
}
