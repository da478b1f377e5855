package ware

import (
	"math"

	"dipper/api"
	"dipper/lex"
)

// reader goes through the words of a line; fault is that of the first one that has one.
type reader struct {
	words []lex.Word
	fault fault
}

// next trusts its caller that there is a word yet.
func (r *reader) next() lex.Word {
	w := r.words[0]
	r.words = r.words[1:]
	return w
}

// ask notes the error of w, unless that is right, or a word ahead of it has one.
func (r *reader) ask(w lex.Word, right bool, e api.Errno) {
	if !right && r.fault.e == api.OK {
		r.fault = fault{w.At, e}
	}
}

// name adds the next word to the names that stand.
func (r *reader) name(stand names) string {
	w := r.next()
	r.ask(w, stand.add(w.Text), api.ErrName)
	return w.Text
}

func (r *reader) number(least, most int64) int64 {
	w := r.next()
	v, ok := lex.Number(w.Text)
	r.ask(w, ok && within(v, least, most), api.ErrRange)
	return v
}

// size: a number of a section; shape.Right asks its bounds.
func (r *reader) size() int64 { return r.number(0, math.MaxInt64) }

// well fills the well that the next word tells.
func (r *reader) well(s *stand) api.Well {
	w := r.next()
	well, ok := wellOf(w.Text)
	r.ask(w, ok && s.fill(well), api.ErrWell)
	return well
}
