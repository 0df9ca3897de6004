package stack_test

import (
	"slices"
	"strings"
	"testing"

	"wringing/api"
	"wringing/stack"
)

const exampleText = "1 1000\n2 1010\n3 1020\n4 2000\n5 5000\n"

func TestPrintExamples(t *testing.T) {
	for i, c := range []struct {
		box  []api.Block
		text string
	}{
		{example(), exampleText},
		{nil, ""},
		{[]api.Block{}, ""},
		{boxOf(1), "1 1\n"},
		{[]api.Block{block(10, 20), block(100, 3)}, "10 20\n100 3\n"},
		{[]api.Block{block(1, mostBlock), block(api.MaxID, 1)}, "1 56294995342131\n1099511627776 1\n"},
		{boxOf(slices.Repeat([]int{5}, api.MaxBox)...), "1 5\n2 5\n3 5\n4 5\n5 5\n6 5\n7 5\n8 5\n9 5\n10 5\n11 5\n12 5\n13 5\n14 5\n15 5\n16 5\n17 5\n18 5\n19 5\n20 5\n"},
	} {
		if text, e := stack.Print(c.box); text != c.text || e != api.OK {
			t.Error("P4.2: Print:", i, text, e)
		}
		if box, e := stack.Parse(c.text); !slices.Equal(box, c.box) || e != api.OK {
			t.Error("P4.2: Parse:", i, box, e)
		}
	}
}

func TestParseRefuses(t *testing.T) {
	for i, text := range []string{
		"\n", " ", "1", "1\n", "1 \n", " 1\n", "1 5", "1 5 \n", " 1 5\n", "1  5\n", "1\t5\n", "1 5\r\n", "1 5\r", "1 5\n\n", "\n1 5\n", "1 5\n\n2 5\n", "1 5\n2", "1 5\n2 5", "1 5\n2\n", "1 5 6\n", "block 1 5\n", "x 5\n", "1 x\n", "1 5x\n", "1 5\x00\n", "1\x00 5\n", "1,5\n", "1 5;2 5\n", "1 5 2 5\n",
		"0 5\n", "-1 5\n", "1 0\n", "1 -5\n", "1 -0\n", "+1 5\n", "1 +5\n", "01 5\n", "1 05\n", "00 5\n", "0x1 5\n", "1 0x5\n", "1_0 5\n", "1 5_0\n", "1 5.0\n", "1 5e1\n", "\xff 5\n", "1 \xff\n", "١ 5\n",
		"1099511627777 5\n", "1 56294995342132\n", "9223372036854775808 5\n", "1 9223372036854775808\n", "18446744073709551617 5\n", "1 18446744073709551621\n", "1 -9223372036854775809\n", strings.Repeat("9", 5000) + " 5\n", "1 " + strings.Repeat("0", 5000) + "5\n",
		"1 5\n1 5\n", "2 5\n1 5\n", "1 5\n3 5\n2 5\n", exampleText + "5 1\n", exampleText + "x", exampleText + "\n", exampleText + " ", exampleText + exampleText, exampleText + "6 0\n", " " + exampleText,
		"1 5\n2 5\n3 5\n4 5\n5 5\n6 5\n7 5\n8 5\n9 5\n10 5\n11 5\n12 5\n13 5\n14 5\n15 5\n16 5\n17 5\n18 5\n19 5\n20 5\n21 5\n", strings.Repeat("1 5\n", 5000), strings.Repeat("\n", 5000), strings.Repeat(" ", 5000),
	} {
		if box, e := stack.Parse(text); len(box) != 0 || e != api.ErrForm {
			t.Error("P4.2: Parse:", i, box, e)
		}
	}
}

// TestParseChangedTexts changes a text at each place, and asks for a text that can be printed again.
func TestParseChangedTexts(t *testing.T) {
	parsed := 0
	for at := range len(exampleText) + 1 {
		texts := []string{exampleText[:at], exampleText[at:]}
		for _, b := range []byte("\n -+0159x\x00\xa0") {
			texts = append(texts, exampleText[:at]+string([]byte{b})+exampleText[at:])
			if at < len(exampleText) {
				texts = append(texts, exampleText[:at]+string([]byte{b})+exampleText[at+1:])
			}
		}
		for _, text := range texts {
			box, e := stack.Parse(text)
			again, f := stack.Print(box)
			if e == api.OK && f == api.OK && again == text {
				parsed++
			} else if e != api.ErrForm || len(box) != 0 {
				t.Fatal("P4.17: Parse:", text, box, e)
			}
		}
	}
	if parsed < 100 {
		t.Error("P4.17: Parse refuses texts of boxes:", parsed)
	}
}

func TestPrintParseAreInverse(t *testing.T) {
	for _, x := range trials(500, api.MaxBox) {
		text, e := stack.Print(x.box)
		back, f := stack.Parse(text)
		if e != api.OK || f != api.OK || !slices.Equal(back, x.box) {
			t.Fatal("P4.17: Parse of Print:", x.box, text, e, f)
		}
	}
}
