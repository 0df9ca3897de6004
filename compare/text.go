package compare

import (
	"slices"
	"strconv"
	"strings"

	"wringing/api"
)

// A text of a book has no more lines, and a line of it no more words behind the first one, than these.
const (
	mostLines = 1 + api.MaxGauges + api.MaxUses + api.MaxLoans + api.MaxCompares + api.MaxLooks
	mostWords = 8 + 2*api.MaxPile
)

// Print returns the text of a book.
func Print(b api.Book) (string, api.Errno) {
	if e := Check(b); e != api.OK {
		return "", e
	}
	var text strings.Builder
	printLine(&text, "film", b.Film.Lo, b.Film.Hi)
	for _, g := range b.Gauges {
		printLine(&text, "gauge", g.ID, g.Made, g.Nominal, g.Tol.Lo, g.Tol.Hi, g.Growth.Num, g.Growth.Den, g.Wear)
	}
	for _, u := range b.Uses {
		printLine(&text, "use", u.Gauge, u.Day)
	}
	for _, loan := range b.Loans {
		printLine(&text, "loan", loan.Gauge, loan.Days.Lo, loan.Days.Hi, loan.Wear)
	}
	for _, c := range b.Compares {
		printWords(&text, "compare", c.ID, c.Day, c.Diff, c.Error, c.Heat.Lo, c.Heat.Hi)
		printWords(&text, " a", c.A...)
		printLine(&text, " b", c.B...)
	}
	for _, n := range b.Looks {
		printLine(&text, "look", n.Gauge, n.Day)
	}
	return text.String(), api.OK
}

// Parse returns the book of a text.
func Parse(text string) (api.Book, api.Errno) {
	b := read(text)
	// A text that is not one of a book is read as anything, but never printed again.
	if again, e := Print(b); e != api.OK || again != text {
		return api.Book{}, api.ErrForm
	}
	return b, api.OK
}

func printLine(text *strings.Builder, word string, numbers ...int) {
	printWords(text, word, numbers...)
	text.WriteByte('\n')
}

func printWords(text *strings.Builder, word string, numbers ...int) {
	text.WriteString(word)
	for _, n := range numbers {
		text.WriteByte(' ')
		text.WriteString(strconv.Itoa(n))
	}
}

// read returns the book that a text is about, if it is about one.
func read(text string) api.Book {
	var b api.Book
	lines := 0
	for line := range strings.Lines(text) {
		lines++
		if lines > mostLines {
			break
		}
		word, rest, _ := strings.Cut(strings.TrimSuffix(line, "\n"), " ")
		n := firstNumbers(rest)
		switch word {
		case "film":
			b.Film = api.Span{Lo: n[0], Hi: n[1]}
		case "gauge":
			b.Gauges = append(b.Gauges, api.Gauge{
				ID: n[0], Made: n[1], Nominal: n[2], Tol: api.Span{Lo: n[3], Hi: n[4]},
				Growth: api.Rat{Num: n[5], Den: n[6]}, Wear: n[7],
			})
		case "use":
			b.Uses = append(b.Uses, api.Use{Gauge: n[0], Day: n[1]})
		case "loan":
			b.Loans = append(b.Loans, api.Loan{Gauge: n[0], Days: api.Span{Lo: n[1], Hi: n[2]}, Wear: n[3]})
		case "compare":
			c := api.Compare{ID: n[0], Day: n[1], Diff: n[2], Error: n[3], Heat: api.Span{Lo: n[4], Hi: n[5]}}
			c.A, c.B = readPiles(rest)
			b.Compares = append(b.Compares, c)
		case "look":
			b.Looks = append(b.Looks, api.Node{Gauge: n[0], Day: n[1]})
		}
	}
	return b
}

// firstNumbers returns the numbers at the beginning of a text, where it has some.
func firstNumbers(text string) [8]int {
	var numbers [8]int
	for i := range numbers {
		var word string
		word, text, _ = strings.Cut(text, " ")
		numbers[i], _ = strconv.Atoi(word)
	}
	return numbers
}

// readPiles returns the piles that a text names behind the words a and b.
func readPiles(text string) (a, b []int) {
	words := strings.SplitN(text, " ", mostWords+1)
	first := slices.Index(words, "a")
	second := slices.Index(words, "b")
	if first < 0 || second < first {
		return nil, nil
	}
	return numbersOf(words[first+1 : second]), numbersOf(words[second+1:])
}

func numbersOf(words []string) []int {
	var numbers []int
	for _, w := range words {
		n, _ := strconv.Atoi(w)
		numbers = append(numbers, n)
	}
	return numbers
}
