package proto

import (
	"dipper/api"
	"dipper/lex"
	"dipper/well"
)

// What a word tells that stands behind a line's first.
const (
	ofName = iota
	ofFresh
	ofWell
	ofVolume
	ofTimes
)

// read: the step that a line tells, or its first error and where that stands; full: no step may come any more.
func read(words []lex.Word, full bool) (api.Step, int, api.Errno) {
	first := words[0].At
	kind, ok := kindOf(words)
	if !ok {
		return api.Step{}, first, api.ErrWord
	}
	// of lines of any length all words are wells but two; the others have less
	if full || len(words)-2 > api.MaxList {
		return api.Step{}, first, api.ErrMany
	}
	s := api.Step{Kind: kind}
	for i, w := range words[1:] {
		if e := take(&s, told(kind, i+1), w.Text); e != api.OK {
			return api.Step{}, w.At, e
		}
	}
	return s, 0, api.OK
}

// kindOf: the kind of the line; false, if none begins so, or if it has too few words or too many.
func kindOf(words []lex.Word) (int, bool) {
	n := len(words)
	switch words[0].Text {
	case useWord:
		return api.Use, n == 2
	case freshWord:
		return api.Fresh, n == 2 && (words[1].Text == eachWord || words[1].Text == onceWord)
	case transferWord:
		return api.Transfer, n == 4
	case spreadWord:
		return api.Spread, n >= 4
	case gatherWord:
		return api.Gather, n >= 4
	case mixWord:
		return api.Mix, n == 4
	case diluteWord:
		return api.Dilute, n >= 4
	}
	return 0, false
}

// told: what the i-th word of a line of that kind tells, the first word being the 0th.
func told(kind, i int) int {
	volume := 2
	switch kind {
	case api.Use:
		return ofName
	case api.Fresh:
		return ofFresh
	case api.Transfer:
		volume = 3
	case api.Mix:
		if i == 3 {
			return ofTimes
		}
	case api.Dilute:
		volume = 1
	}
	if i == volume {
		return ofVolume
	}
	return ofWell
}

// take adds to s what a word tells; an error, if that may not be.
func take(s *api.Step, what int, text string) api.Errno {
	switch what {
	case ofName:
		s.Name = text
		return unless(lex.Name(text), api.ErrName)
	case ofFresh:
		if text == eachWord {
			s.N = 1
		}
	case ofWell:
		w, ok := well.Parse(text)
		s.W = append(s.W, w)
		return unless(ok, api.ErrWell)
	case ofVolume:
		v, ok := number(text, api.MaxVolume)
		s.V = v
		return unless(ok, api.ErrRange)
	case ofTimes:
		n, ok := number(text, api.MaxMix)
		s.N = int(n)
		return unless(ok, api.ErrRange)
	}
	return api.OK
}

func unless(right bool, e api.Errno) api.Errno {
	if right {
		return api.OK
	}
	return e
}

// number: that of 1 to most which the text is.
func number(text string, most int64) (int64, bool) {
	v, ok := lex.Number(text)
	return v, ok && within(v, 1, most)
}

func offsets(words []lex.Word) []int {
	at := make([]int, 0, len(words))
	for _, w := range words {
		at = append(at, w.At)
	}
	return at
}
