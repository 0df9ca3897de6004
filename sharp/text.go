package sharp

import (
	"slices"
	"strconv"
	"strings"

	"wringing/api"
	"wringing/compare"
)

const (
	upperWord = "upper"
	lowerWord = "lower"
)

// Print returns the text of a certificate.
func Print(c api.Cert) (string, api.Errno) {
	book, e := compare.Print(c.Book)
	if e != api.OK {
		return "", e
	}
	if len(c.Chain) > api.MaxFits {
		return "", api.ErrLimit
	}
	end := lowerWord
	if c.Upper {
		end = upperWord
	}
	words := []string{"cert", strconv.Itoa(c.Node.Gauge), strconv.Itoa(c.Node.Day), end, strconv.Itoa(c.Value)}
	links := []string{"chain"}
	for _, i := range c.Chain {
		links = append(links, strconv.Itoa(i))
	}
	return book + strings.Join(words, " ") + "\n" + strings.Join(links, " ") + "\n", api.OK
}

// Parse returns the certificate of a text.
func Parse(text string) (api.Cert, api.Errno) {
	book, cert, links := lastLines(text)
	c, e := read(book, words(cert), words(links))
	if e != api.OK {
		return api.Cert{}, e
	}
	// A text that is not one of a certificate is read as anything, but never printed again.
	if again, e := Print(c); e != api.OK || again != text {
		return api.Cert{}, api.ErrForm
	}
	return c, api.OK
}

// lastLines cuts a text in front of its last two lines, and between them; each part has its line feed.
func lastLines(text string) (before, first, second string) {
	// The positions behind the last three line feeds.
	var ends [3]int
	for i, letter := range text {
		if letter == '\n' {
			ends = [3]int{ends[1], ends[2], i + 1}
		}
	}
	return text[:ends[0]], text[ends[0]:ends[1]], text[ends[1]:ends[2]]
}

// words returns the words of a line in front of blanks and its line feed, at most one more than a line can have.
func words(line string) []string {
	var l []string
	start := 0
	for i, letter := range line {
		if letter != ' ' && letter != '\n' {
			continue
		}
		l = append(l, line[start:i])
		start = i + 1
		if len(l) > 1+api.MaxFits {
			break
		}
	}
	return l
}

// read returns the certificate that a text is about, if it is about one.
func read(book string, cert, links []string) (api.Cert, api.Errno) {
	b, e := compare.Parse(book)
	if e != api.OK || len(cert) != 5 || len(links) == 0 {
		return api.Cert{}, api.ErrForm
	}
	c := api.Cert{Book: b, Upper: cert[3] == upperWord}
	numbers := numbersOf(slices.Concat(cert[1:3], cert[4:]))
	c.Node = api.Node{Gauge: numbers[0], Day: numbers[1]}
	c.Value = numbers[2]
	c.Chain = numbersOf(links[1:])
	return c, api.OK
}

func numbersOf(words []string) []int {
	var numbers []int
	for _, w := range words {
		n, _ := strconv.Atoi(w)
		numbers = append(numbers, n)
	}
	return numbers
}
