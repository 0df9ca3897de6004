package compare_test

import (
	"strings"
	"testing"

	"wringing/api"
	"wringing/compare"
)

const exampleText = "film 0 2\n" +
	"gauge 1 0 1000 -5 5 1 10 1\n" +
	"gauge 2 0 1000 -50 50 1 4 0\n" +
	"use 1 10\n" +
	"loan 1 20 29 3\n" +
	"compare 7 10 -20 1 100 200 a 1 b 2\n"

// longText is the text of a book that has numbers at their limits.
const longText = "film 1000000 1000000\n" +
	"gauge 1 0 1 -1073741824 -1073741824 -1000 99 1048576\n" +
	"gauge 1099511627776 20000 1125899906842624 1073741824 1073741824 999 100 0\n" +
	"use 1 20000\nuse 1099511627776 20000\nuse 1 20000\n" +
	"loan 1 0 19999 1048576\n" +
	"compare 1099511627776 20000 -1125899906842624 1073741824 -10000 10000 a 1 b 1 1099511627776\n" +
	"compare 1 20000 1125899906842624 0 10000 10000 a 1 1099511627776 b 1\n" +
	"look 1099511627776 20000\nlook 1 7\n"

func TestPrintExamples(t *testing.T) {
	six := changed(plain(6), func(b *api.Book) {
		b.Compares = []api.Compare{
			cold(2, 0, []int{1, 2, 3, 4, 5, 6}, []int{1, 2, 3, 4, 5}, 0, 0), cold(1, 0, nil, []int{6}, -100, 0), cold(3, 0, []int{6}, nil, 100, 0),
		}
		b.Looks = []api.Node{node(2, 5), node(1, 20), node(2, 5)}
	})
	for i, c := range []struct {
		b    api.Book
		text string
	}{
		{api.Book{}, "film 0 0\n"},
		{example(), exampleText},
		{changed(six, func(b *api.Book) { b.Gauges = b.Gauges[:2]; b.Compares = nil }), "film 0 0\ngauge 1 0 100 -9 9 0 1 0\ngauge 2 0 100 -9 9 0 1 0\nlook 2 5\nlook 1 20\nlook 2 5\n"},
		{six, "film 0 0\ngauge 1 0 100 -9 9 0 1 0\ngauge 2 0 100 -9 9 0 1 0\ngauge 3 0 100 -9 9 0 1 0\ngauge 4 0 100 -9 9 0 1 0\ngauge 5 0 100 -9 9 0 1 0\ngauge 6 0 100 -9 9 0 1 0\n" +
			"compare 2 0 0 0 0 0 a 1 2 3 4 5 6 b 1 2 3 4 5\ncompare 1 0 -100 0 0 0 a b 6\ncompare 3 0 100 0 0 0 a 6 b\nlook 2 5\nlook 1 20\nlook 2 5\n"},
	} {
		if text, e := compare.Print(c.b); text != c.text || e != api.OK {
			t.Error("P5.11: Print:", i, text, e)
		}
		if b, e := compare.Parse(c.text); !same(b, c.b) || e != api.OK {
			t.Error("P5.11: Parse:", i, b, e)
		}
	}
	for _, text := range []string{longText, mustPrint(t, filled())} {
		b, e := compare.Parse(text)
		if again, f := compare.Print(b); e != api.OK || f != api.OK || again != text {
			t.Error("P5.11: Parse, Print:", text, e, f)
		}
	}
}

func mustPrint(t *testing.T, b api.Book) string {
	t.Helper()
	text, e := compare.Print(b)
	if e != api.OK {
		t.Fatal("P5.11: Print:", b, e)
	}
	return text
}

func TestParseRefuses(t *testing.T) {
	lines := strings.SplitAfter(strings.TrimSuffix(exampleText, "\n"), "\n")
	lines[len(lines)-1] += "\n"
	texts := []string{
		"", "\n", " ", "film", "film\n", "film 0\n", "film 0 0", "film 0 0 \n", " film 0 0\n", "film  0 0\n", "film 0 0 0\n", "film 0 0\n\n", "\nfilm 0 0\n", "film\t0 0\n", "film 0 0\r\n",
		"film 0 00\n", "film -0 0\n", "film +0 0\n", "film 0 1000001\n", "film 2 1\n", "film 0x0 0\n", "film 0 0_0\n", "film x 0\n", "film 0 ٠\n", "film 0 9223372036854775808\n", "film 0 18446744073709551616\n",
		"FILM 0 0\n", "films 0 0\n", "film 0 0\nfilm 0 0\n", "film 0 0\ncomment\n", "gauge 1 0 1000 -5 5 1 10 1\n",
		exampleText + "x", exampleText + "\n", exampleText + exampleText, exampleText + "look 3 5\n", exampleText + "look 1 5", exampleText + "look 1\n", exampleText + "look 1 5 5\n", exampleText + "look 1 20001\n",
		exampleText + "use 1 10\n", exampleText + "compare 7 10 -20 1 100 200 a 1 b 2\n", exampleText + "compare 8 10 -20 1 100 200 a 1 b\n ",
		exampleText + "film 0 2\n", "film 0 2\n" + exampleText, exampleText[9:] + "film 0 2\n",
		strings.Repeat("film 0 0\n", 5000), strings.Repeat("look 1 1\n", 5000), strings.Repeat("\n", 5000), "film 0 0" + strings.Repeat(" 0", 5000) + "\n", "film 0 " + strings.Repeat("0", 5000) + "\n",
		"film 0 0\n" + strings.Repeat("look 1 1\n", api.MaxLooks+1),
		strings.Replace(exampleText, "1 10 1\n", "2 20 1\n", 1), strings.Replace(exampleText, "1 10 1\n", "1 0 1\n", 1), strings.Replace(exampleText, "1 10 1\n", "1 101 1\n", 1), strings.Replace(exampleText, "1 10 1\n", "-1 -10 1\n", 1),
	}
	for _, piles := range []string{
		"", "1 b 2", "a", "a 1", "a 1 2", "b 2", "b 2 a 1", "a 1 b 2 b", "a 1 b 2 a", "a a 1 b 2", "a 1 b b 2", "a 1 a 1 b 2", "a 1 b 2 3", "a 1 2 b 1 2", "a b", "a 1 b 1", "a  1 b 2", "a 1  b 2", "a 1 b  2", "a 1 b 2 ", "a 1 b ", "a  b 2",
		"A 1 B 2", "a 2 1 b 2", "a 1 1 b 2", "a 01 b 2", "a +1 b 2", "a 1b 2", "a1 b 2", "a 0 b 2", "a -1 b 2", "a 1 b 3", "a 1099511627777 b 2", "a 1 2 3 4 5 6 7 b 2", "a 1 b 2 3 4 5 6 7 8 9", "a" + strings.Repeat(" 1", 5000) + " b 2", "a 1 b" + strings.Repeat(" 2", 5000), "0 a 1 b 2", "a 1 b 2 x", "a x 1 b 2",
	} {
		texts = append(texts, strings.Replace(exampleText, "a 1 b 2", piles, 1))
	}
	for i := range lines {
		for j := range i {
			swapped := append([]string{}, lines...)
			swapped[i], swapped[j] = swapped[j], swapped[i]
			// The two gauges are the lines 1 and 2, and no two other lines are of the same kind.
			texts = append(texts, strings.Join(swapped, ""))
		}
		if i != len(lines)-1 && i != 3 && i != 4 {
			texts = append(texts, strings.Join(append(append([]string{}, lines[:i]...), lines[i+1:]...), ""))
		}
	}
	for i, text := range texts {
		if b, e := compare.Parse(text); !isNothing(b) || e != api.ErrForm {
			t.Errorf("P5.11: Parse: %d %.200q %v %v", i, text, b, e)
		}
	}
}

// TestParseChangedTexts changes texts at each place, and asks for a text that can be printed again.
func TestParseChangedTexts(t *testing.T) {
	parsed := 0
	for _, base := range []string{exampleText, longText} {
		for at := range len(base) + 1 {
			texts := []string{base[:at], base[at:]}
			for _, b := range []byte("\n -+0159abx\x00\xa0") {
				texts = append(texts, base[:at]+string([]byte{b})+base[at:])
				if at < len(base) {
					texts = append(texts, base[:at]+string([]byte{b})+base[at+1:])
				}
			}
			for _, text := range texts {
				b, e := compare.Parse(text)
				again, f := compare.Print(b)
				if e == api.OK && f == api.OK && again == text {
					parsed++
				} else if e != api.ErrForm || !isNothing(b) {
					t.Fatal("P5.16: Parse:", text, b, e)
				}
			}
		}
	}
	if parsed < 300 {
		t.Error("P5.16: Parse refuses texts of books:", parsed)
	}
}

func TestPrintParseAreInverse(t *testing.T) {
	books := []api.Book{{}, example(), withLate(), filled()}
	for _, s := range scenes(500, 5, 8) {
		books = append(books, s.b)
	}
	for _, b := range books {
		back, e := compare.Parse(mustPrint(t, b))
		if !same(back, b) || e != api.OK {
			t.Fatal("P5.16: Parse of Print:", b, back, e)
		}
	}
}
