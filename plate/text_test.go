package plate_test

import (
	"slices"
	"strings"
	"testing"

	"wringing/api"
	"wringing/plate"
)

const twistedText = "shop 2 3\nwork 0 1 0\nwork 1 2 0\nwork 2 0 4\n"

func TestPrintExamples(t *testing.T) {
	full := shop(6, 6, slices.Repeat([]api.Working{work(5, 4, 7)}, api.MaxWorkings)...)
	for i, c := range []struct {
		s    api.Shop
		text string
	}{
		{twisted(), twistedText},
		{shop(1, 1), "shop 1 1\n"},
		{full, "shop 6 6\n" + strings.Repeat("work 5 4 7\n", api.MaxWorkings)},
	} {
		if text, e := plate.Print(c.s); text != c.text || e != api.OK {
			t.Error("P3.12: Print:", i, text, e)
		}
		if s, e := plate.Parse(c.text); !same(s, c.s) || e != api.OK {
			t.Error("P3.12: Parse:", i, s, e)
		}
	}
}

func TestParseRefuses(t *testing.T) {
	line := "work 0 1 2\n"
	for i, text := range []string{
		"", "\n", "shop", "shop\n", "shop 2\n", "shop 2 2", "shop 2 2 \n", " shop 2 2\n", "shop  2 2\n", "shop 2  2\n", "shop\t2 2\n", "shop 2 2\r\n", "shop 2 2\n\n", "\nshop 2 2\n", "Shop 2 2\n", "work 2 2\n", "shops 2 2\n", " 2 2\n", "2 2\n",
		"shop 0 2\n", "shop 7 2\n", "shop -2 2\n", "shop 2 0\n", "shop 2 7\n", "shop 02 2\n", "shop 2 02\n", "shop +2 2\n", "shop 2 +2\n", "shop -0 2\n", "shop 2 x\n", "shop 2 2 2\n", "shop 2 2 0\n", "shop 2 2\x00\n", "shop 0x2 2\n", "shop 2_0 2\n", "shop 2.0 2\n", "shop \xff 2\n", "shop 18446744073709551618 2\n",
		line, line + "shop 2 2\n", "shop 2 2\nshop 2 2\n",
		"shop 2 2\nwork 0 1 2", "shop 2 2\nwork 0 1\n", "shop 2 2\nwork 0 1 2 3\n", "shop 2 2\nwork 0 1 2 \n", "shop 2 2\n work 0 1 2\n", "shop 2 2\nwork  0 1 2\n", "shop 2 2\nwork 0 1  2\n", "shop 2 2\nworks 0 1 2\n", "shop 2 2\nwork\n", "shop 2 2\nwork \n", "shop 2 2\n" + line + "\n" + line, "shop 2 2\nshop 0 1 2\n", "shop 2 2\n 0 1 2\n",
		"shop 2 2\nwork 0 0 2\n", "shop 2 2\nwork 0 2 2\n", "shop 2 2\nwork -1 1 2\n", "shop 2 2\nwork 0 1 8\n", "shop 2 2\nwork 0 1 -1\n", "shop 2 2\nwork 0 1 -0\n", "shop 2 2\nwork -0 1 2\n", "shop 2 2\nwork 0 1 +2\n", "shop 2 2\nwork 0 01 2\n", "shop 2 2\nwork 0 1 02\n", "shop 2 2\nwork 0 1 18446744073709551618\n", "shop 2 2\nwork 0 1 9223372036854775808\n",
		"shop 2 2\n" + strings.Repeat(line, api.MaxWorkings+1), "shop 2 2\n" + strings.Repeat(line, 5000), "shop 2 2" + strings.Repeat(" ", 5000) + "\n", "shop 2 2\n" + strings.Repeat("\n", 5000),
		twistedText + "x", twistedText + "\n", twistedText + " ", twistedText + twistedText,
	} {
		if s, e := plate.Parse(text); !same(s, api.Shop{}) || e != api.ErrForm {
			t.Error("P3.12: Parse:", i, s, e)
		}
	}
	if s, e := plate.Parse("shop 2 2\n" + strings.Repeat(line, api.MaxWorkings)); len(s.Workings) != api.MaxWorkings || e != api.OK {
		t.Error("P3.12: Parse:", s, e)
	}
}

// TestParseChangedTexts changes a text at each place, and asks for a text that can be printed again.
func TestParseChangedTexts(t *testing.T) {
	parsed := 0
	for at := range len(twistedText) + 1 {
		texts := []string{twistedText[:at], twistedText[at:]}
		for _, b := range []byte("\n -+01578wx\x00\xa0") {
			texts = append(texts, twistedText[:at]+string([]byte{b})+twistedText[at:])
			if at < len(twistedText) {
				texts = append(texts, twistedText[:at]+string([]byte{b})+twistedText[at+1:])
			}
		}
		for _, text := range texts {
			s, e := plate.Parse(text)
			again, f := plate.Print(s)
			if e == api.OK && f == api.OK && again == text {
				parsed++
			} else if e != api.ErrForm || !same(s, api.Shop{}) {
				t.Fatal("P3.12: Parse:", text, s, e)
			}
		}
	}
	if parsed < 30 {
		t.Error("P3.12: Parse refuses texts of shops:", parsed)
	}
}

func TestPrintParseAreInverse(t *testing.T) {
	for _, s := range shops(300, api.MaxGrid, 6) {
		text, e := plate.Print(s)
		back, f := plate.Parse(text)
		if e != api.OK || f != api.OK || !same(back, s) {
			t.Fatal("P3.12: Parse of Print:", s, text, e, f)
		}
	}
}
