package room

import (
	"slices"
	"strconv"
	"strings"

	"wringing/api"
)

// disk holds things, and the sectors of their records, in order.
type disk[T any] struct {
	held    []T
	sectors []string
	format  format[T]
}

// format is how things stand on a disk.
type format[T any] struct {
	// write returns the sectors of the record with a number and a thing.
	write func(n int, x T) []string
	// read returns the thing of the record with a number that some sectors begin with, and how many sectors it has.
	read func(n int, sectors []string) (T, int, bool)
}

// put adds a thing, and its record at the end.
func (d *disk[T]) put(x T) {
	d.held = append(d.held, x)
	d.sectors = append(d.sectors, d.format.write(len(d.held), x)...)
}

// load adds the things of the records that some sectors begin with.
func (d *disk[T]) load(sectors []string) {
	for {
		x, size, ok := d.format.read(len(d.held)+1, sectors)
		if !ok {
			return
		}
		d.put(x)
		sectors = sectors[size:]
	}
}

// count returns of how many things something is true.
func (d *disk[T]) count(is func(T) bool) int {
	n := 0
	for _, x := range d.held {
		if is(x) {
			n++
		}
	}
	return n
}

// find returns the first thing of which something is true.
func (d *disk[T]) find(is func(T) bool) (T, bool) {
	for _, x := range d.held {
		if is(x) {
			return x, true
		}
	}
	var none T
	return none, false
}

// Record returns the sectors of a record.
func Record(n int, f api.Fact) ([]string, api.Errno) {
	text, e := Encode(f)
	if e != api.OK || !isWithin(n, 1, api.MaxFacts) {
		return nil, api.ErrArg
	}
	var pieces []string
	for rest := text; rest != ""; {
		size := min(len(rest), api.Sector)
		pieces = append(pieces, rest[:size])
		rest = rest[size:]
	}
	numbers := []int{n, len(pieces), len(text), sumOf(text)}
	head := "record"
	for _, number := range numbers {
		head += " " + strconv.Itoa(number)
	}
	return slices.Concat([]string{head}, pieces), api.OK
}

func sumOf(text string) int {
	sum := 0
	for i := range len(text) {
		sum = (31*sum + int(text[i]) + 1) % api.SumMod
	}
	return sum
}

// readRecord returns the fact of the record with a number that some sectors begin with, and how many sectors it has.
func readRecord(n int, sectors []string) (api.Fact, int, bool) {
	if len(sectors) == 0 {
		return api.Fact{}, 0, false
	}
	pieces := piecesOf(sectors[0])
	if !isWithin(pieces, 1, len(sectors)-1) {
		return api.Fact{}, 0, false
	}
	// What the first sector says of the record is right if the record is the same when it is written again; there is none with a number that is too great, or without a fact.
	f, _ := Decode(strings.Join(sectors[1:1+pieces], ""))
	again, e := Record(n, f)
	return f, len(again), e == api.OK && slices.Equal(again, sectors[:1+pieces])
}

// piecesOf returns how many sectors the first one of a record says are behind it; 0, which is wrong, if it says nothing.
func piecesOf(head string) int {
	words := strings.SplitN(head, " ", 4)
	if len(words) < 4 {
		return 0
	}
	pieces, _ := strconv.Atoi(words[2])
	return pieces
}
