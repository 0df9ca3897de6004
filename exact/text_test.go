package exact_test

import (
	"strconv"
	"strings"
	"testing"

	"wringing/api"
	"wringing/exact"
)

func TestPrintParse(t *testing.T) {
	for text, a := range map[string]api.Rat{
		"-3/2":                   rat(-3, 2),
		"7":                      rat(7, 1),
		"0":                      rat(0, 1),
		"-1":                     rat(-1, 1),
		"10/3":                   rat(10, 3),
		"1/10":                   rat(1, 10),
		"2147483647":             rat(maxNum, 1),
		"-2147483647":            rat(-maxNum, 1),
		"1/2147483647":           rat(1, maxNum),
		"-2147483646/2147483647": rat(-maxNum+1, maxNum),
	} {
		if s, e := exact.Print(a); s != text || e != api.OK {
			t.Fatal("P1.12: Print:", a, s, e)
		}
		if r, e := exact.Parse(text); r != a || e != api.OK {
			t.Fatal("P1.12: Parse:", text, r, e)
		}
	}
	for _, l := range [][]api.Rat{edgeRats(), smallRats(12), randomRats(300)} {
		for _, a := range l {
			want := strings.TrimSuffix(strconv.Itoa(a.Num)+"/"+strconv.Itoa(a.Den), "/1")
			s, e := exact.Print(a)
			r, f := exact.Parse(want)
			if s != want || e != api.OK || r != a || f != api.OK {
				t.Fatal("P1.12:", a, s, e, r, f)
			}
		}
	}
	for _, bad := range badRats {
		if s, e := exact.Print(bad); s != "" || e != api.ErrArg {
			t.Fatal("P1.12: Print:", bad, s, e)
		}
	}
}

func TestParseMalformed(t *testing.T) {
	for _, text := range []string{
		"6/4", "3/1", "-0", "03", "1/0",
		"", "-", "/", "-/", "--1", "+1", "+1/2", "1/+2", "1/-2", "-1/-2", "-3/1", "0/1", "0/2", "-0/1", "0/0",
		"1/", "/2", "1//2", "1/2/3", "1/2/", "/1/2", "1/02", "01/2", "-03/2", "00",
		" 1", "1 ", "1 /2", "1/ 2", "1\n", "\t1", "1\x00", "1_0", "1/1_0", "0x1", "0b1", "1e3", "1.5", "1,5", "1\\2",
		"a", "1a", "1/a", "\u0661", "\uff11", "-2/4", "-2/2", "2147483647/2147483647",
		"2147483648", "-2147483648", "1/2147483648", "4294967297", "1/4294967297", "4294967296/3",
		"9223372036854775807", "-9223372036854775808", "9223372036854775808", "1/9223372036854775809",
		"18446744073709551617", "1/18446744073709551618", "99999999999999999999", strings.Repeat("1", 100000),
	} {
		if r, e := exact.Parse(text); r != (api.Rat{}) || e != api.ErrForm {
			t.Fatalf("P1.12: Parse: %.40q: %v %d", text, r, e)
		}
	}
}

// TestParseAccepts holds Parse against all short texts of the bytes that can occur.
func TestParseAccepts(t *testing.T) {
	want := map[string]api.Rat{}
	for num := -99; num <= 999; num++ {
		for den := 1; den <= 9; den++ {
			if lowest(num, den) {
				want[strings.TrimSuffix(strconv.Itoa(num)+"/"+strconv.Itoa(den), "/1")] = rat(num, den)
			}
		}
	}
	texts := []string{""}
	for range 4 {
		var longer []string
		for _, text := range texts {
			wantE := api.ErrForm
			if _, ok := want[text]; ok {
				wantE = api.OK
			}
			if r, e := exact.Parse(text); r != want[text] || e != wantE {
				t.Fatalf("P1.12: Parse: %q: %v %d", text, r, e)
			}
			for _, c := range "01234569-/+ " {
				longer = append(longer, text+string(c))
			}
		}
		texts = longer
	}
}
