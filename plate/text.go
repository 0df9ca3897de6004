package plate

import (
	"strconv"
	"strings"

	"wringing/api"
)

// Print returns the text of a shop.
func Print(s api.Shop) (string, api.Errno) {
	if e := Check(s); e != api.OK {
		return "", e
	}
	var text strings.Builder
	printLine(&text, "shop", s.Side, s.Plates)
	for _, w := range s.Workings {
		printLine(&text, "work", w.A, w.B, w.Turn)
	}
	return text.String(), api.OK
}

// Parse returns the shop of a text.
func Parse(text string) (api.Shop, api.Errno) {
	s := read(text)
	// A text that is not one of a shop is read as anything, but never printed again.
	if again, e := Print(s); e != api.OK || again != text {
		return api.Shop{}, api.ErrForm
	}
	return s, api.OK
}

func printLine(text *strings.Builder, word string, numbers ...int) {
	text.WriteString(word)
	for _, n := range numbers {
		text.WriteByte(' ')
		text.WriteString(strconv.Itoa(n))
	}
	text.WriteByte('\n')
}

// read returns the shop that a text is about, if it is about one.
func read(text string) api.Shop {
	line, rest, _ := strings.Cut(text, "\n")
	numbers := numbersOf(line)
	s := api.Shop{Side: numbers[0], Plates: numbers[1]}
	for rest != "" && len(s.Workings) <= api.MaxWorkings {
		line, rest, _ = strings.Cut(rest, "\n")
		numbers = numbersOf(line)
		s.Workings = append(s.Workings, api.Working{A: numbers[0], B: numbers[1], Turn: numbers[2]})
	}
	return s
}

// numbersOf returns the numbers behind the first word of a line, where it has some.
func numbersOf(line string) [3]int {
	var numbers [3]int
	_, rest, _ := strings.Cut(line, " ")
	for i := range numbers {
		var word string
		word, rest, _ = strings.Cut(rest, " ")
		numbers[i], _ = strconv.Atoi(word)
	}
	return numbers
}
