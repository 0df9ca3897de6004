package sharp_test

import (
	"math/rand"
	"reflect"
	"slices"
	"strings"
	"testing"

	"wringing/api"
	"wringing/compare"
	"wringing/sharp"
)

const bookText = "film 0 2\n" +
	"gauge 1 0 1000 -5 5 1 10 1\n" +
	"gauge 2 0 1000 -50 50 1 4 0\n" +
	"use 1 10\n" +
	"loan 1 20 29 3\n" +
	"compare 7 10 -20 1 100 200 a 1 b 2\n"

const certText = bookText + "cert 2 10 upper 1011\nchain 0 2 9\n"

func TestPrintExamples(t *testing.T) {
	for i, x := range []struct {
		c    api.Cert
		text string
	}{
		{api.Cert{}, "film 0 0\ncert 0 0 lower 0\nchain\n"},
		{api.Cert{Chain: []int{}, Upper: true}, "film 0 0\ncert 0 0 upper 0\nchain\n"},
		{exampleGiven().cert, certText},
		{api.Cert{Book: example(), Node: node(leastInt, mostInt), Value: leastInt, Chain: []int{mostInt, leastInt, -1, 0}}, bookText +
			"cert -9223372036854775808 9223372036854775807 lower -9223372036854775808\nchain 9223372036854775807 -9223372036854775808 -1 0\n"},
		{api.Cert{Chain: slices.Repeat([]int{10}, api.MaxFits)}, "film 0 0\ncert 0 0 lower 0\nchain" + strings.Repeat(" 10", 80) + "\n"},
	} {
		if text, e := sharp.Print(x.c); text != x.text || e != api.OK {
			t.Error("P6.12: Print:", i, text, e)
		}
		if c, e := sharp.Parse(x.text); !sameCert(c, x.c) || e != api.OK {
			t.Error("P6.12, P6.18: Parse:", i, c, e)
		}
	}
	c, _ := sharp.Certify(example(), node(2, 10), true)
	if text, e := sharp.Print(c); text != certText || e != api.OK {
		t.Error("P6.12: Print:", text, e)
	}
}

// sameCert reports whether two certificates are the same, where an empty list may be nil.
func sameCert(c, d api.Cert) bool {
	return same(c.Book, d.Book) && c.Node == d.Node && c.Upper == d.Upper && c.Value == d.Value && slices.Equal(c.Chain, d.Chain)
}

func TestPrintRefuses(t *testing.T) {
	long := make([]int, api.MaxFits+1)
	twice := changed(example(), func(b *api.Book) { b.Gauges[1].ID = 1 })
	for i, x := range []struct {
		c api.Cert
		e api.Errno
	}{
		{api.Cert{Book: example(), Chain: long}, api.ErrLimit},
		{api.Cert{Book: twice, Chain: long}, api.ErrTwice},
		{api.Cert{Book: twice}, api.ErrTwice},
		{api.Cert{Book: api.Book{Film: span(1, 0)}}, api.ErrArg},
		{api.Cert{Book: example(), Chain: long[1:]}, api.OK},
	} {
		if text, e := sharp.Print(x.c); e != x.e || (text == "") != (e != api.OK) {
			t.Error("P6.12: Print:", i, text, e)
		}
	}
}

func TestParseRefuses(t *testing.T) {
	long := "film 0 0\ncert 0 0 lower 0\nchain" + strings.Repeat(" 1", api.MaxFits+1) + "\n"
	texts := []string{
		"", "\n", "\n\n", "\n\n\n", bookText, "film 0 0\n", "cert 2 10 upper 1011\nchain 0 2 9\n", long, strings.Repeat("\n", 100000),
		certText + "\n", certText + "x", "\n" + certText, certText + certText, bookText + certText, certText + "chain\n", bookText + "chain 0 2 9\ncert 2 10 upper 1011\n",
		"film 0 0\ncert 0 0 lower 0\nchain" + strings.Repeat(" 1", 100000) + "\n", "film 0 0\ncert 0 0 lower 0\nchain " + strings.Repeat("1", 100000) + "\n",
		"film 0 0\ncert 0 0 lower 0" + strings.Repeat(" 0", 100000) + "\nchain\n", "film 0 0\n" + strings.Repeat("cert 0 0 lower 0\n", 1000) + "chain\n",
	}
	for i := range certText {
		texts = append(texts, certText[:i])
	}
	for _, x := range [][2]string{
		{"cert 2", "Cert 2"}, {"cert 2", "cert  2"}, {"cert 2", "cert"}, {"cert 2", "cert 2 2"}, {"cert 2", " cert 2"}, {"cert 2", "cert +2"}, {"cert 2", "cert 02"}, {"cert 2", "cert x"}, {"cert 2", "cert 2x"}, {"cert 2", "cert 0x2"},
		{"cert 2", "look 2 10\ncert"}, {"cert 2", "cert\t2"}, {"cert 2 10", "cert 2 -0"}, {"cert 2 10", "cert 2 010"}, {"cert 2 10", "cert 2 10_0"}, {"cert 2", "cert 18446744073709551618"},
		{"upper", "Upper"}, {"upper", "lower "}, {"upper", "up"}, {"upper", "uppers"}, {"upper", ""}, {"upper 1011", "1011 upper"}, {"upper", "0"},
		{"1011\n", "1011 \n"}, {"1011\n", "1011\r\n"}, {"1011\n", "+1011\n"}, {"1011\n", "01011\n"}, {"1011\n", "1011"}, {"1011\n", "1011\n\n"}, {"1011\n", "\n"}, {"1011\n", "1011.0\n"}, {"1011\n", "9223372036854775808\n"}, {"1011\n", "-9223372036854775809\n"},
		{"chain 0", "chains 0"}, {"chain 0", "chain  0"}, {"chain 0", "chain -0"}, {"chain 0", "chain 00"}, {"chain 0", "chain x"}, {"chain 0", "0 chain"}, {"chain 0", "Chain 0"}, {"chain 0", "chain 0,"}, {" 9\n", " 9 \n"}, {" 9\n", " 9\v\n"}, {" 9\n", " \u0669\n"}, {" 9\n", " 9\xff\n"},
		{"film 0 2", "film 0 02"}, {"film 0 2", "film 3 2"}, {"film 0 2\n", ""}, {"gauge 2", "gauge 1"}, {"b 2\n", "b 3\n"}, {"b 2\n", "b 2\n\n"}, {"b 2\n", "b 2 \n"}, {"b 2\n", "b 2\nlook 1 20001\n"}, {"gauge", "\u00a0gauge"},
	} {
		texts = append(texts, strings.Replace(certText, x[0], x[1], 1))
	}
	for _, text := range texts {
		if c, e := sharp.Parse(text); !isNothing(c) || e != api.ErrForm {
			t.Errorf("P6.12: Parse: %.300q %v %v", text, c, e)
		}
	}
}

// TestParseOnlyWhatIsPrinted changes letters of texts: what is still read is printed again.
func TestParseOnlyWhatIsPrinted(t *testing.T) {
	r := rand.New(rand.NewSource(68))
	letters := "0123456789- \n\tabcehilnoprtuw\x00\x80\xe2"
	read := 0
	for range 20000 {
		text := []byte(certText)
		for range 1 + r.Intn(2) {
			i := r.Intn(len(text))
			// The last two lines are short, and are to be changed as often as the others.
			if r.Intn(2) == 0 {
				i = len(bookText) + r.Intn(len(text)-len(bookText))
			}
			switch letter := letters[r.Intn(len(letters))]; r.Intn(3) {
			case 0:
				text[i] = letter
			case 1:
				text = slices.Insert(text, i, letter)
			case 2:
				text = slices.Delete(text, i, i+1)
			}
		}
		c, e := sharp.Parse(string(text))
		if e != api.OK {
			if e != api.ErrForm || !isNothing(c) {
				t.Fatalf("P6.12: Parse: %q %v %v", text, c, e)
			}
			continue
		}
		read++
		if again, e := sharp.Print(c); again != string(text) || e != api.OK {
			t.Fatalf("P6.18: Parse, Print: %q %q %v", text, again, e)
		}
	}
	if read < 1000 {
		t.Error("too few texts are read:", read)
	}
}

func TestTextsOfCerts(t *testing.T) {
	r := rand.New(rand.NewSource(69))
	for _, s := range scenes(150, 4, 6) {
		c := api.Cert{Book: s.b, Node: node(r.Intn(9)-3, r.Intn(9)-3), Upper: r.Intn(2) == 0, Value: r.Intn(2000) - 1000}
		if r.Intn(2) == 0 && isPossible(t, s.b) {
			c, _ = sharp.Certify(s.b, randomNode(r, s.b), r.Intn(2) == 0)
		}
		for range r.Intn(5) {
			c.Chain = append(c.Chain, r.Intn(20)-5)
		}
		text, e := sharp.Print(c)
		if e != api.OK {
			t.Fatal("P6.12: Print:", c, e)
		}
		if book, e := compare.Print(c.Book); e != api.OK || !strings.HasPrefix(text, book) {
			t.Fatal("P6.12: Print:", c, text, e)
		}
		if again, e := sharp.Parse(text); !sameCert(again, c) || e != api.OK {
			t.Fatal("P6.18: Parse:", c, again, e)
		}
	}
}

func TestTextsAreNotKept(t *testing.T) {
	first, _ := sharp.Parse(certText)
	scribble(first)
	second, e := sharp.Parse(certText)
	if third, f := sharp.Parse(certText); !reflect.DeepEqual(second, third) || !sameCert(second, exampleGiven().cert) || e != api.OK || f != api.OK {
		t.Error("R6, R7: Parse:", second, third)
	}
}
