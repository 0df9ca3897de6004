package chain

import (
	"strconv"
	"strings"

	"wringing/api"
)

// Print returns the text of a system.
func Print(s api.System) (string, api.Errno) {
	if e, _ := Check(s); e != api.OK {
		return "", e
	}
	var text strings.Builder
	printLine(&text, "nodes", s.Nodes)
	for _, l := range s.Links {
		printLine(&text, "link", l.From, l.To, l.Most)
	}
	return text.String(), api.OK
}

// Parse returns the system of a text.
func Parse(text string) (api.System, api.Errno) {
	s, ok := read(text)
	if !ok {
		return api.System{}, api.ErrForm
	}
	if e, _ := Check(s); e != api.OK {
		return api.System{}, api.ErrForm
	}
	return s, api.OK
}

func printLine(text *strings.Builder, word string, numbers ...int) {
	text.WriteString(word)
	for _, n := range numbers {
		text.WriteByte(' ')
		text.WriteString(strconv.Itoa(n))
	}
	text.WriteByte('\n')
}

// read returns what the lines of a text say, whether it is a valid system or not.
func read(text string) (api.System, bool) {
	line, rest, ended := strings.Cut(text, "\n")
	numbers, ok := readLine(line, "nodes", 1)
	if !ended || !ok {
		return api.System{}, false
	}
	s := api.System{Nodes: numbers[0]}
	for rest != "" {
		line, rest, ended = strings.Cut(rest, "\n")
		numbers, ok = readLine(line, "link", 3)
		if !ended || !ok || len(s.Links) == api.MaxLinks {
			return api.System{}, false
		}
		s.Links = append(s.Links, api.Link{From: numbers[0], To: numbers[1], Most: numbers[2]})
	}
	return s, true
}

// readLine returns the numbers of a line that is a certain word and that many numbers.
func readLine(line, word string, count int) ([]int, bool) {
	words := strings.SplitN(line, " ", count+2)
	if len(words) != count+1 || words[0] != word {
		return nil, false
	}
	var numbers []int
	for _, w := range words[1:] {
		n, e := strconv.Atoi(w)
		// Atoi accepts more forms than Itoa writes: a plus sign, for one, or zeros in front.
		if e != nil || strconv.Itoa(n) != w {
			return nil, false
		}
		numbers = append(numbers, n)
	}
	return numbers, true
}
