package chain_test

import (
	"slices"
	"strings"
	"testing"

	"wringing/api"
	"wringing/chain"
)

const exampleText = "nodes 4\nlink 0 1 5\nlink 1 2 3\nlink 0 2 9\nlink 2 0 -6\nlink 2 1 -2\n"

func TestPrintExamples(t *testing.T) {
	for i, c := range []struct {
		s    api.System
		text string
	}{
		{example(), exampleText},
		{system(1), "nodes 1\n"},
		{system(60, link(59, 0, 0), link(0, 10, -1<<52), link(10, 9, 1<<52)), "nodes 60\nlink 59 0 0\nlink 0 10 -4503599627370496\nlink 10 9 4503599627370496\n"},
	} {
		if text, e := chain.Print(c.s); text != c.text || e != api.OK {
			t.Error("P2.14: Print:", i, text, e)
		}
		if s, e := chain.Parse(c.text); !same(s, c.s) || e != api.OK {
			t.Error("P2.14: Parse:", i, s, e)
		}
	}
}

func TestParseRefuses(t *testing.T) {
	line := "link 0 1 5\n"
	for i, text := range []string{
		"", "\n", "nodes", "nodes\n", "nodes 2", "nodes \n", "nodes 0\n", "nodes -1\n", "nodes 61\n", "nodes 02\n", "nodes +2\n", "nodes 2 \n", " nodes 2\n", "nodes  2\n", "nodes\t2\n", "nodes 2\r\n", "nodes 2\n\n", "\nnodes 2\n", "Nodes 2\n", "node 2\n", "nodes 2 2\n", "nodes x\n", "nodes 2\x00\n", "nodes 0x2\n", "nodes 2_0\n", "nodes 2.0\n", "nodes \xff\n", "nodes 18446744073709551618\n",
		line, line + "nodes 2\n", "nodes 2\nnodes 2\n",
		"nodes 2\nlink 0 1 5", "nodes 2\nlink 0 1\n", "nodes 2\nlink 0 1 5 6\n", "nodes 2\nlink 0 1 5 \n", "nodes 2\n link 0 1 5\n", "nodes 2\nlink  0 1 5\n", "nodes 2\nlink 0 1  5\n", "nodes 2\nlinks 0 1 5\n", "nodes 2\nlink\n", "nodes 2\nlink \n", "nodes 2\n" + line + "\n" + line,
		"nodes 2\nlink 0 0 5\n", "nodes 2\nlink 0 2 5\n", "nodes 2\nlink -1 1 5\n", "nodes 2\nlink 0 1 -0\n", "nodes 2\nlink -0 1 5\n", "nodes 2\nlink 0 1 +5\n", "nodes 2\nlink 0 01 5\n", "nodes 2\nlink 0 1 05\n", "nodes 2\nlink 0 1 - 5\n", "nodes 2\nlink 0 1 --5\n",
		"nodes 2\nlink 0 1 4503599627370497\n", "nodes 2\nlink 0 1 -4503599627370497\n", "nodes 2\nlink 0 1 9223372036854775808\n", "nodes 2\nlink 0 1 18446744073709551621\n",
		"nodes 2\n" + strings.Repeat(line, api.MaxLinks+1), "nodes 2\n" + strings.Repeat(line, 5000), "nodes 2" + strings.Repeat(" ", 5000) + "\n",
		exampleText + "x", exampleText + "\n", exampleText + " ", exampleText + exampleText,
	} {
		if s, e := chain.Parse(text); s.Nodes != 0 || len(s.Links) != 0 || e != api.ErrForm {
			t.Error("P2.14: Parse:", i, s, e)
		}
	}
	if s, e := chain.Parse("nodes 2\n" + strings.Repeat(line, api.MaxLinks)); len(s.Links) != api.MaxLinks || e != api.OK {
		t.Error("P2.14: Parse:", len(s.Links), e)
	}
}

// TestParseChangedTexts changes a text at each place, and asks for a text that can be printed again.
func TestParseChangedTexts(t *testing.T) {
	for at := range len(exampleText) + 1 {
		texts := []string{exampleText[:at], exampleText[at:]}
		for _, b := range []byte("\n -+0159lx\x00\xa0") {
			texts = append(texts, exampleText[:at]+string([]byte{b})+exampleText[at:])
			if at < len(exampleText) {
				texts = append(texts, exampleText[:at]+string([]byte{b})+exampleText[at+1:])
			}
		}
		for _, text := range texts {
			s, e := chain.Parse(text)
			again, f := chain.Print(s)
			if e != api.ErrForm && (e != api.OK || f != api.OK || again != text) {
				t.Fatal("P2.14, P2.19: Parse:", text, s, e)
			}
		}
	}
}

func TestPrintParseAreInverse(t *testing.T) {
	for _, s := range slices.Concat(smallSystems(300), largeSystems(20), []api.System{cycle(api.MaxNodes, -api.MaxBound)}) {
		text, e := chain.Print(s)
		back, f := chain.Parse(text)
		if e != api.OK || f != api.OK || !same(back, s) {
			t.Fatal("P2.19: Parse of Print:", s, text, e, f)
		}
		if again, e := chain.Print(back); again != text || e != api.OK {
			t.Fatal("P2.19: Print of Parse:", text, again, e)
		}
	}
}
