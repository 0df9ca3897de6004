package room_test

import (
	"math/rand"
	"slices"
	"strconv"
	"strings"
	"testing"

	"wringing/api"
	"wringing/room"
)

// texts are facts with their texts.
func texts() []struct {
	f    api.Fact
	text string
} {
	c := api.Compare{Day: 4, A: []int{1, 2}, B: []int{2, 5}, Diff: -6, Error: 1, Heat: span(-7, 8)}
	left, right := cold(0, []int{3}, nil, 0, 0), cold(1, nil, []int{3}, -1, 2)
	g := gauge(7, 1000, -5, 5)
	g.Made, g.Growth, g.Wear = 3, rat(-1, 3), 2
	return []struct {
		f    api.Fact
		text string
	}{
		{example()[9], "fact 2 4 20 7\nwithdraw 2 3\n"},
		{fact(1, 2, 3, span(0, 2)), "fact 1 2 3 1\nfilm 0 2\n"},
		{fact(6, 60, api.MaxKnown, g), "fact 6 60 1099511627776 2\ngauge 7 3 1000 -5 5 -1 3 2\n"},
		{fact(1, 2, 0, use(api.MaxID, api.MaxDay)), "fact 1 2 0 3\nuse 1099511627776 20000\n"},
		{fact(1, 2, 3, loan(1, 20, 29, 3)), "fact 1 2 3 4\nloan 1 20 29 3\n"},
		{fact(1, 2, 3, c), "fact 1 2 3 5\ncompare 4 -6 1 -7 8 a 1 2 b 2 5\n"},
		{fact(1, 2, 3, left), "fact 1 2 3 5\ncompare 0 0 0 0 0 a 3 b\n"},
		{fact(1, 2, 3, right), "fact 1 2 3 5\ncompare 1 -1 2 0 0 a b 3\n"},
		{fact(1, 2, 3, cold(1, nil, nil, 4, 2)), "fact 1 2 3 5\ncompare 1 4 2 0 0 a b\n"},
		{fact(1, 2, 3, mix(12, 2, 3)), "fact 1 2 3 6\nmix 12 2 3\n"},
		{fact(1, 2, 3, mix(9, 9, 90)), "fact 1 2 3 6\nmix 9 9 90\n"},
		{fact(1, 2, 3, mix(0, 1, 2, 3, 4, 5)), "fact 1 2 3 6\nmix 0 1 2 3 4 5\n"},
	}
}

func TestTexts(t *testing.T) {
	for _, x := range texts() {
		if text, e := room.Encode(x.f); text != x.text || e != api.OK {
			t.Errorf("P8.9: Encode: %q %v", text, e)
		}
		if f, e := room.Decode(x.text); !same(f, x.f) || e != api.OK {
			t.Errorf("P8.9: Decode: %q %v %v", x.text, f, e)
		}
	}
	for _, v := range slices.Concat(names(), fields()) {
		for _, n := range v.right {
			f := changed(one()[v.kind], func(f *api.Fact) { v.change(f, n) })
			text, e := room.Encode(f)
			g, h := room.Decode(text)
			if e != api.OK || h != api.OK || !same(f, g) {
				t.Error("P8.18: Decode of Encode:", f, e, g, h)
			}
		}
		for _, n := range v.wrong {
			f := changed(one()[v.kind], func(f *api.Fact) { v.change(f, n) })
			if text, e := room.Encode(f); text != "" || e != api.ErrArg {
				t.Error("P8.9: Encode:", f, text, e)
			}
		}
	}
}

func TestWrongTexts(t *testing.T) {
	for _, text := range []string{
		"", "\n", "fact", "fact 1 2 3 1", "fact 1 2 3 1\n", "fact 1 2 3 1\nfilm 0 2", "fact 1 2 3 1\nfilm 0\n", "fact 1 2 3 1\nfilm\n",
		"fact 1 2 3 1\nfilm 0 2 \n", "fact 1 2 3 1\nfilm 0 2 3\n", "fact 1 2 3 1\nfilm 0 2\n\n", "fact 1 2 3 1\nfilm 0 2\nfilm 0 2\n",
		"\nfact 1 2 3 1\nfilm 0 2\n", " fact 1 2 3 1\nfilm 0 2\n", "fact 1 2 3 1 \nfilm 0 2\n", "fact  1 2 3 1\nfilm 0 2\n",
		"fact 1 2 3 1\n film 0 2\n", "fact 1 2 3 1\nfilm  0 2\n", "fact 1 2 3 1\r\nfilm 0 2\r\n", "fact 1 2 3 1 film 0 2\n",
		"fact 1 2 3 1\nfilm 00 2\n", "fact 1 2 3 1\nfilm 0 +2\n", "fact 1 2 3 1\nfilm -0 2\n", "fact 1 2 3 1\nfilm 0 2.\n", "fact 1 2 3 1\nfilm 0 x\n",
		"fact 1 2 3 1\nfilm 0 0x2\n", "fact 1 2 3 1\nfilm 0 1_0\n", "fact 1 2 3 1\nfilm 0 -\n", "fact 1 2 3 1\nfilm 0 2-\n", "fact 1 2 3 1\nfilm 0 --2\n",
		"fact 1 2 3 1\nfilm 3 2\n", "fact 1 2 3 2\nfilm 0 2\n", "fact 1 2 3 1\nuse 0 2\n", "fact 1 2 3 0\nfilm 0 2\n", "fact 1 2 3 8\nfilm 0 2\n",
		"fact 0 2 3 1\nfilm 0 2\n", "fact 1 61 3 1\nfilm 0 2\n", "fact 1 2 -1 1\nfilm 0 2\n", "fact 1 2 3\nfilm 0 2\n", "Fact 1 2 3 1\nfilm 0 2\n",
		"fact 1 2 3 1\nFilm 0 2\n", "fact 1 2 99999999999999999999 1\nfilm 0 2\n", "fact 1 2 18446744073709551617 1\nfilm 0 2\n",
		"fact 1 2 3 7\nwithdraw 1 2\n", "fact 1 2 3 7\nwithdraw 1 0\n",
		"fact 1 2 3 6\nmix 12 2\n", "fact 1 2 3 6\nmix 12 3 2\n", "fact 1 2 3 6\nmix 12 2 2\n", "fact 1 2 3 6\nmix 12 2 x\n", "fact 1 2 3 6\nmix 12 2 03\n",
		"fact 1 2 3 6\nmix 12 1 2 3 4 5 6\n", "fact 1 2 3 6\nmix 12 2 3 \n", "fact 1 2 3 6\nmix 12 2  3\n", "fact 1 2 3 6\nmix 12 -2 3\n", "fact 1 2 3 6\nmix\n", "fact 1 2 3 6\nmix 12  2 3\n",
		"fact 1 2 3 5\ncompare 1 4 2 0 0\n", "fact 1 2 3 5\ncompare 1 4 2 0 0 a\n", "fact 1 2 3 5\ncompare 1 4 2 0 0 b\n", "fact 1 2 3 5\ncompare 1 4 2 0 0 b a\n",
		"fact 1 2 3 5\ncompare 1 4 2 0 0 a b a\n", "fact 1 2 3 5\ncompare 1 4 2 0 0 a 1 1 b\n", "fact 1 2 3 5\ncompare 1 4 2 0 0 a b 2 1\n", "fact 1 2 3 5\ncompare 1 4 2 0 0 a b 0\n",
		"fact 1 2 3 5\ncompare 1 4 2 0 0 3 a b\n", "fact 1 2 3 5\ncompare 1 4 2 0 a b 3\n", "fact 1 2 3 5\ncompare 7 1 4 2 0 0 a 1 b\n", "fact 1 2 3 5\ncompare 1 4 2 0 0 a1 b\n",
		"fact 1 2 3 5\ncompare 1 4 2 0 0 a 1 b2\n", "fact 1 2 3 5\ncompare 1 4 2 0 0 ab 1\n", "fact 1 2 3 5\ncompare 1 4 2 0 0 a  b\n", "fact 1 2 3 5\ncompare 1 4 2 0 0 a b \n",
		"fact 1 2 3 2\ngauge 7 3 1000 -5 5 2 4 2\n", "fact 1 2 3 2\ngauge 7 3 1000 -5 5 -1 3\n", "fact 1 2 3 2\ngauge 7 3 1000 -5 5 -1 3 2 0\n", "fact 1 2 3 2\ngauge 7 3 1000 -5 5 1 -3 2\n",
		"fact 1 2 3 3\nuse 0 1\n", "fact 1 2 3 4\nloan 1 2 1 0\n", "\xff\xfe", "fact 1 2 3 1\nfilm 0 2\x00\n", "fact 1 2 3 1\nfilm 0 \xc3\xa9\n",
		"fact 1 2 3 6\nmix 12" + strings.Repeat(" 7", 100000) + "\n", "fact 1 2 3 1\nfilm 0 " + strings.Repeat("9", 100000) + "\n", strings.Repeat("fact ", 100000),
	} {
		if f, e := room.Decode(text); e != api.ErrForm || !isNothing(f) {
			t.Errorf("P8.9: Decode: %.99q %v %v", text, f, e)
		}
	}
}

// TestChangedTexts changes bytes of texts: what is read is printed as the same text.
func TestChangedTexts(t *testing.T) {
	r := rand.New(rand.NewSource(85))
	bytes, read := " \n-0123456789abfx", 0
	for range 20000 {
		all := texts()
		text := []byte(all[r.Intn(len(all))].text)
		for range 1 + r.Intn(2) {
			i := r.Intn(len(text))
			switch r.Intn(3) {
			case 0:
				text[i] = bytes[r.Intn(len(bytes))]
			case 1:
				text = slices.Delete(text, i, i+1)
			case 2:
				text = slices.Insert(text, i, bytes[r.Intn(len(bytes))])
			}
		}
		f, e := room.Decode(string(text))
		if e == api.OK {
			read++
			if again, e := room.Encode(f); again != string(text) || e != api.OK {
				t.Fatalf("P8.18: Encode of Decode: %q %q %v", text, again, e)
			}
		} else if e != api.ErrForm || !isNothing(f) {
			t.Fatalf("P8.9: Decode: %q %v %v", text, f, e)
		}
	}
	if read < 1000 {
		t.Error("too few texts that can be read:", read)
	}
}

// recordOf returns a record, by the words of the chapter.
func recordOf(n int, text string) []string {
	sum := 0
	for _, b := range []byte(text) {
		sum = (31*sum + int(b) + 1) % 2147483647
	}
	var pieces []string
	for len(text) > 64*len(pieces) {
		pieces = append(pieces, text[64*len(pieces):min(len(text), 64*len(pieces)+64)])
	}
	head := []string{"record", strconv.Itoa(n), strconv.Itoa(len(pieces)), strconv.Itoa(len(text)), strconv.Itoa(sum)}
	return append([]string{strings.Join(head, " ")}, pieces...)
}

// long is a fact whose text has more than 192 bytes.
func long() api.Fact {
	var a, b []int
	for i := range api.MaxPile {
		a, b = append(a, api.MaxID-20+i), append(b, api.MaxID-10+i)
	}
	return fact(6, 60, api.MaxKnown, api.Compare{Day: 19999, A: a, B: b, Diff: -api.MaxLen, Error: api.MaxTol, Heat: span(-10000, 10000)})
}

// sized is a fact whose text has exactly that many bytes.
func sized(t *testing.T, size int) api.Fact {
	t.Helper()
	for digits := range 14 {
		for labels := 2; labels <= api.MaxLabels; labels++ {
			x := mix(1000)
			for i := range labels {
				id := 1 + i
				for range digits {
					id = min(10*id, api.MaxID-10+i)
				}
				x.Labels = append(x.Labels, id)
			}
			for known := 1; known < api.MaxKnown; known *= 10 {
				f := fact(1, 1, known, x)
				if text, e := room.Encode(f); e == api.OK && len(text) == size {
					return f
				}
			}
		}
	}
	t.Fatal("no text of this size:", size)
	return api.Fact{}
}

func TestRecord(t *testing.T) {
	all := []api.Fact{long(), sized(t, 63), sized(t, 64), sized(t, 65)}
	for _, x := range texts() {
		all = append(all, x.f)
	}
	for _, f := range all {
		text, _ := room.Encode(f)
		for _, n := range []int{1, 2, 99, api.MaxFacts} {
			got, e := room.Record(n, f)
			if !slices.Equal(got, recordOf(n, text)) || e != api.OK {
				t.Errorf("P8.9: Record: %d %q %q %v", n, text, got, e)
			}
		}
		for _, n := range []int{0, -1, api.MaxFacts + 1, leastInt, mostInt} {
			if got, e := room.Record(n, f); got != nil || e != api.ErrArg {
				t.Error("P8.9: Record:", n, got, e)
			}
		}
	}
	if got, e := room.Record(1, api.Fact{}); got != nil || e != api.ErrArg {
		t.Error("P8.9: Record of nothing:", got, e)
	}
	got, _ := room.Record(5, example()[9])
	if len(got) != 2 || !strings.HasPrefix(got[0], "record 5 1 27 ") || got[1] != "fact 2 4 20 7\nwithdraw 2 3\n" {
		t.Errorf("P8.9: Record: %q", got)
	}
	if sectors, _ := room.Record(1, sized(t, 64)); len(sectors) != 2 {
		t.Errorf("P8.9: Record of one full sector: %q", sectors)
	}
	if sectors, _ := room.Record(1, long()); len(sectors) != 5 {
		t.Errorf("P8.9: Record of a long fact: %q", sectors)
	}
}
