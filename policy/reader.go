package policy

import (
	"strings"

	"wayfinder/api"
	"wayfinder/pfx"
)

// blanks are the bytes that may stand between tokens.
const blanks = " \t\n"

// token is a piece of a text and the place of its first byte. The end of the text is a token of nothing.
type token struct {
	text string
	at   int
}

func (t token) fault(code api.Errno) *Fault { return &Fault{code, t.at} }

// reader takes tokens off the front of a text, and judges each of them ahead of the next one. What is wrong is a panic with a Fault, which readFile catches.
type reader struct {
	rest string
	size int // how long the text was
	open int // how many brackets and nots are open
}

// next gives the token that comes, and leaves it there. A byte that begins none is a token of itself: as it can stand nowhere, it is wrong wherever it comes.
func (r *reader) next() token {
	r.rest = behindBlanks(r.rest)
	size := len(r.rest) - len(strings.TrimLeft(r.rest, wordBytes))
	if size == 0 && r.rest != "" {
		size = 1
	}
	return token{r.rest[:size], r.size - len(r.rest)}
}

// behindBlanks gives what stands behind blanks and comments.
func behindBlanks(s string) string {
	s = strings.TrimLeft(s, blanks)
	for strings.HasPrefix(s, "#") {
		_, s, _ = strings.Cut(s, "\n")
		s = strings.TrimLeft(s, blanks)
	}
	return s
}

func (r *reader) take() token {
	t := r.next()
	r.rest = r.rest[len(t.text):]
	return t
}

// pass takes the token that comes if it is this one.
func (r *reader) pass(text string) bool {
	if r.next().text != text {
		return false
	}
	r.take()
	return true
}

// must takes the token that comes, which is this one.
func (r *reader) must(text string) {
	if t := r.take(); t.text != text {
		panic(t.fault(api.ErrText))
	}
}

func (r *reader) name() string {
	t := r.take()
	if !isName(t.text) {
		panic(t.fault(api.ErrText))
	}
	return t.text
}

func (r *reader) number(least, most int) int {
	t := r.take()
	n, ok := numberOf(t.text)
	if !ok {
		panic(t.fault(api.ErrText))
	}
	if n < least || n > most {
		panic(t.fault(api.ErrRange))
	}
	return n
}

func (r *reader) mark() int {
	t := r.take()
	high, low, ok := halvesOf(t.text)
	if !ok {
		panic(t.fault(api.ErrText))
	}
	if high > maxMarkHalf || low > maxMarkHalf {
		panic(t.fault(api.ErrRange))
	}
	return high*markHalf + low
}

func (r *reader) prefix() api.Prefix {
	t := r.take()
	p, e := pfx.Parse(t.text)
	if e != api.OK {
		panic(t.fault(e))
	}
	return p
}

// parts reads one part or more, with a token between each two of them.
func parts[T any](r *reader, between string, read func() T) []T {
	all := []T{read()}
	for r.pass(between) {
		all = append(all, read())
	}
	return all
}

// within reads what stands in a bracket or behind a not, which was taken.
func within[T any](r *reader, opening token, read func() T) T {
	if r.open == api.MaxNest {
		panic(opening.fault(api.ErrFull))
	}
	r.open++
	part := read()
	if opening.text == "(" {
		r.must(")")
	}
	r.open--
	return part
}
