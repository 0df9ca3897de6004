package stack

import (
	"strconv"
	"strings"

	"wringing/api"
)

// Print returns the text of a box.
func Print(box []api.Block) (string, api.Errno) {
	if e := check(box); e != api.OK {
		return "", e
	}
	var text strings.Builder
	for _, b := range box {
		text.WriteString(strconv.Itoa(b.ID))
		text.WriteByte(' ')
		text.WriteString(strconv.Itoa(b.Len))
		text.WriteByte('\n')
	}
	return text.String(), api.OK
}

// Parse returns the box of a text.
func Parse(text string) ([]api.Block, api.Errno) {
	box := read(text)
	// A text that is not one of a box is read as anything, but never printed again.
	if again, e := Print(box); e != api.OK || again != text {
		return nil, api.ErrForm
	}
	return box, api.OK
}

// read returns the box that a text is about, if it is about one.
func read(text string) []api.Block {
	var box []api.Block
	for line := range strings.Lines(text) {
		if len(box) > api.MaxBox {
			break
		}
		id, length, _ := strings.Cut(strings.TrimSuffix(line, "\n"), " ")
		var b api.Block
		b.ID, _ = strconv.Atoi(id)
		b.Len, _ = strconv.Atoi(length)
		box = append(box, b)
	}
	return box
}
