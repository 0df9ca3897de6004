package room

import (
	"strconv"
	"strings"

	"wringing/api"
)

// factWord begins the text of each fact.
const factWord = "fact"

// unreadable is the panic of a parser that cannot read on.
type unreadable struct{}

// parser reads a text from its beginning.
type parser struct{ rest string }

// Encode returns the text of a fact.
func Encode(f api.Fact) (string, api.Errno) {
	if e := CheckFact(f); e != api.OK {
		return "", e
	}
	k := kinds()[f.Kind]
	text := factWord + printed(nameNumbers(&f)) + "\n" + k.word + printed(k.numbers(&f))
	for _, l := range k.lists(&f) {
		if l.word != "" {
			text += " " + l.word
		}
		for _, label := range *l.labels {
			text += " " + strconv.Itoa(label)
		}
	}
	return text + "\n", api.OK
}

// Decode returns the fact of a text.
func Decode(text string) (f api.Fact, e api.Errno) {
	defer func() {
		p := recover()
		if p == nil {
			return
		}
		if _, own := p.(unreadable); !own {
			panic(p)
		}
		f, e = api.Fact{}, api.ErrForm
	}()
	p := parser{text}
	f = p.fact()
	if p.rest != "" || CheckFact(f) != api.OK {
		panic(unreadable{})
	}
	return f, api.OK
}

// printed returns numbers, with a blank ahead of each one.
func printed(numbers []*int) string {
	var text strings.Builder
	for _, n := range numbers {
		text.WriteByte(' ')
		text.WriteString(strconv.Itoa(*n))
	}
	return text.String()
}

func (p *parser) fact() api.Fact {
	var f api.Fact
	p.word(factWord)
	p.numbers(nameNumbers(&f))
	p.word("\n")
	k, ok := kinds()[f.Kind]
	if !ok {
		panic(unreadable{})
	}
	p.word(k.word)
	p.numbers(k.numbers(&f))
	for _, l := range k.lists(&f) {
		if l.word != "" {
			p.word(" " + l.word)
		}
		for p.isNumberNext() {
			p.word(" ")
			label := p.number()
			*l.labels = append(*l.labels, label)
		}
	}
	p.word("\n")
	return f
}

// word reads some bytes that have to come next.
func (p *parser) word(w string) {
	rest, ok := strings.CutPrefix(p.rest, w)
	if !ok {
		panic(unreadable{})
	}
	p.rest = rest
}

// numbers reads numbers, with a blank ahead of each one.
func (p *parser) numbers(numbers []*int) {
	for _, n := range numbers {
		p.word(" ")
		*n = p.number()
	}
}

// number reads a number that is written as Encode writes it.
func (p *parser) number() int {
	digits := p.rest[:len(p.rest)-len(strings.TrimLeft(p.rest, "-0123456789"))]
	n, err := strconv.Atoi(digits)
	if err != nil || strconv.Itoa(n) != digits {
		panic(unreadable{})
	}
	p.rest = p.rest[len(digits):]
	return n
}

// isNumberNext reports whether a number comes next, not a word; labels have no minus sign.
func (p *parser) isNumberNext() bool {
	return len(p.rest) > 1 && p.rest[0] == ' ' && p.rest[1] >= '0' && p.rest[1] <= '9'
}
