package ware

import (
	"dipper/api"
	"dipper/lex"
	"dipper/shape"
)

// fault: an error, and the offset of the word that has it.
type fault struct {
	at int
	e  api.Errno
}

// names of wares, or of tips, each with its place in their list.
type names map[string]int

// add: false of what may not be a name, and of one that stands already.
func (n names) add(name string) bool {
	if _, stands := n[name]; stands || !lex.Name(name) {
		return false
	}
	n[name] = len(n)
	return true
}

// stand: a deck, and what of it was met so far.
type stand struct {
	deck        api.Deck
	wares, tips names
	filled      map[api.Well]struct{}
	// pieces of the ware or tip whose sections may come yet, nil if none may; nothing is added to its list meanwhile
	pieces *[]api.Section
	// head is where the line of these pieces' ware or tip begins
	head int
}

func newStand(d api.Deck) *stand {
	return &stand{deck: d, wares: names{}, tips: names{}, filled: map[api.Well]struct{}{}}
}

// fill: false, if no ware that was met has that well, and if it is filled already.
func (s *stand) fill(w api.Well) bool {
	i, stands := s.wares[w.Ware]
	if !stands {
		return false
	}
	x := s.deck.Wares[i]
	if w.Row < 0 || w.Row >= x.Rows || w.Col < 0 || w.Col >= x.Cols {
		return false
	}
	if _, again := s.filled[w]; again {
		return false
	}
	s.filled[w] = struct{}{}
	return true
}

// line adds what a line tells that begins with one of the deck's words.
func (s *stand) line(words []lex.Word) fault {
	first := words[0]
	section := first.Text == roundWord || first.Text == boxWord
	if !section {
		if f := s.finish(); f.e != api.OK {
			return f
		}
	}
	if len(words) != length(first.Text) || section && s.pieces == nil {
		return fault{first.At, api.ErrWord}
	}
	if s.full(first.Text) {
		return fault{first.At, api.ErrMany}
	}
	r := &reader{words: words[1:]}
	switch first.Text {
	case wareWord:
		s.addWare(first.At, r)
	case tipWord:
		s.addTip(first.At, r)
	case fillWord:
		s.addFill(r)
	default:
		s.addSection(first.Text == roundWord, r)
	}
	return r.fault
}

// finish asks the shape whose last section was read, if there is one.
func (s *stand) finish() fault {
	if s.pieces != nil && !shape.Right(*s.pieces) {
		return fault{s.head, api.ErrShape}
	}
	s.pieces = nil
	return fault{}
}

// full: may no more lines come that begin so?
func (s *stand) full(first string) bool {
	switch first {
	case wareWord:
		return len(s.deck.Wares) == api.MaxWares
	case tipWord:
		return len(s.deck.Tips) == api.MaxTips
	}
	return false
}

func (s *stand) addWare(head int, r *reader) {
	w := api.Ware{Name: r.name(s.wares)}
	w.Rows = int(r.number(1, api.MaxRows))
	w.Cols = int(r.number(1, api.MaxCols))
	w.Tol = r.number(0, api.MaxTol)
	s.deck.Wares = append(s.deck.Wares, w)
	s.pieces, s.head = &s.deck.Wares[len(s.deck.Wares)-1].Shape, head
}

func (s *stand) addTip(head int, r *reader) {
	t := api.Tip{Name: r.name(s.tips)}
	t.Cap = r.number(1, api.MaxVolume)
	t.Filter = r.number(1, api.MaxHeight)
	t.Err = r.number(0, api.MaxErr)
	s.deck.Tips = append(s.deck.Tips, t)
	s.pieces, s.head = &s.deck.Tips[len(s.deck.Tips)-1].Outer, head
}

func (s *stand) addSection(round bool, r *reader) {
	x := api.Section{Round: round, H: r.size(), A0: r.size()}
	if !round {
		x.B0 = r.size()
	}
	x.A1 = r.size()
	if !round {
		x.B1 = r.size()
	}
	*s.pieces = append(*s.pieces, x)
}

func (s *stand) addFill(r *reader) {
	w := r.well(s)
	s.deck.Fills = append(s.deck.Fills, api.Fill{W: w, V: r.number(0, api.MaxVolume)})
}
