package swap

import (
	"slices"
	"strconv"
	"strings"

	"wringing/api"
	"wringing/compare"
)

const mixWord = "mix"

// Print returns the text of a case.
func Print(m api.Mixed) (string, api.Errno) {
	if e := Check(m); e != api.OK {
		return "", e
	}
	text, _ := compare.Print(m.Book)
	for _, x := range m.Mixes {
		words := []string{mixWord}
		for _, n := range slices.Concat([]int{x.Day}, x.Labels) {
			words = append(words, strconv.Itoa(n))
		}
		text += strings.Join(words, " ") + "\n"
	}
	return text, api.OK
}

// Parse returns the case of a text.
func Parse(text string) (api.Mixed, api.Errno) {
	book, mixes := cut(text)
	b, e := compare.Parse(book)
	if e != api.OK {
		return api.Mixed{}, api.ErrForm
	}
	m := api.Mixed{Book: b, Mixes: readMixes(mixes)}
	// A text that is not one of a case is read as anything, but never printed again.
	if again, e := Print(m); e != api.OK || again != text {
		return api.Mixed{}, api.ErrForm
	}
	return m, api.OK
}

// cut cuts a text in front of its first mix-up; no line of a book begins like one.
func cut(text string) (book, mixes string) {
	end := strings.Index(text, "\n"+mixWord)
	if end < 0 {
		return text, ""
	}
	return text[:end+1], text[end+1:]
}

// readMixes returns the mix-ups that a text is about, as many as a case can have.
func readMixes(text string) []api.Mix {
	var mixes []api.Mix
	for line := range strings.Lines(text) {
		if len(mixes) == api.MaxMixes {
			break
		}
		// Words that are too many stay together in the last one, which then is no number.
		words := strings.SplitN(strings.TrimSuffix(line, "\n"), " ", 2+api.MaxLabels)
		var numbers []int
		for _, w := range words {
			n, _ := strconv.Atoi(w)
			numbers = append(numbers, n)
		}
		var x api.Mix
		if len(numbers) > 2 {
			x = api.Mix{Day: numbers[1], Labels: numbers[2:]}
		}
		mixes = append(mixes, x)
	}
	return mixes
}
