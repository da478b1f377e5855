package track

import (
	"fmt"
	"math"
	"math/big"
	"math/rand"
	"slices"
	"strings"
	"sync"
	"testing"

	"dipper/api"
	"dipper/deck"
)

const (
	lowest    = math.MinInt64
	highest   = math.MaxInt64
	maxVolume = 20000000
	maxDraw   = 1000000000
)

func of(lo, hi int64) api.Span { return api.Span{Lo: lo, Hi: hi} }

// around: a fill that is off by tol.
func around(v, tol int64) api.Span { return of(max(v-tol, 0), v+tol) }

// wareOf: a ware of wells that are far greater than what is in them.
func wareOf(name string, rows, cols int, tol int64) api.Ware {
	return api.Ware{Name: name, Rows: rows, Cols: cols, Tol: tol, Shape: []api.Section{{H: 100, A0: 10, B0: 10, A1: 10, B1: 10}}}
}

func fill(name string, row, col int, v int64) api.Fill {
	return api.Fill{W: api.Well{Ware: name, Row: row, Col: col}, V: v}
}

// few: wells 0 to 5 of a plate, 6 of a trough, 7 and 8 of a strip.
func few() api.Deck {
	return api.Deck{
		Wares: []api.Ware{wareOf("plate", 2, 3, 100), wareOf("trough", 1, 1, 0), wareOf("strip", 2, 1, 7)},
		Fills: []api.Fill{fill("strip", 1, 0, 7), fill("plate", 0, 1, 1000), fill("trough", 0, 0, 20), fill("plate", 1, 2, 99), fill("plate", 1, 0, 0)},
	}
}

// fewAtFirst: what the deck above begins with.
func fewAtFirst() []api.Span {
	return []api.Span{{}, of(900, 1100), {}, of(0, 100), {}, of(0, 199), of(20, 20), {}, of(0, 14)}
}

// full: as many wells as a deck has, each with as much as a fill can be, of wares that are off by tol.
func full(tol int64) api.Deck {
	var d api.Deck
	for k := range api.MaxWares {
		name := "w" + string(rune('a'+k))
		d.Wares = append(d.Wares, wareOf(name, api.MaxRows, api.MaxCols, tol))
		for i := range api.MaxRows * api.MaxCols {
			d.Fills = append(d.Fills, fill(name, i/api.MaxCols, i%api.MaxCols, maxVolume))
		}
	}
	return d
}

func board(t *testing.T, d api.Deck) *deck.Board {
	t.Helper()
	b, e := deck.New(d)
	if e != api.OK {
		t.Fatalf("deck.New: %d", e)
	}
	return b
}

// begun: of a deck of one ware with a well for each of the fills.
func begun(t *testing.T, tol int64, fills ...int64) *State {
	t.Helper()
	d := api.Deck{Wares: []api.Ware{wareOf("p", 1, len(fills), tol)}}
	for i, v := range fills {
		d.Fills = append(d.Fills, fill("p", 0, i, v))
	}
	return New(board(t, d))
}

// see: these wells, no others, and that tip.
func see(t *testing.T, s *State, tip api.Span, wells ...api.Span) {
	t.Helper()
	for i, want := range wells {
		if got, ok := s.At(i); got != want || !ok {
			t.Errorf("At(%d): %v, %v, not %v", i, got, ok, want)
		}
	}
	for _, i := range []int{len(wells), len(wells) + 1, -1, -len(wells), highest, lowest, 1 << 32, -1 << 32} {
		if got, ok := s.At(i); got != (api.Span{}) || ok {
			t.Errorf("At(%d): %v, %v of a well that isn't there", i, got, ok)
		}
	}
	if got := s.Tip(); got != tip {
		t.Errorf("Tip: %v, not %v", got, tip)
	}
	if got := s.Drop(); got != (tip == api.Span{}) {
		t.Errorf("Drop: %v of %v", got, tip)
	}
}

// draw and give must answer true.
func draw(t *testing.T, s *State, i int, v, err int64) {
	t.Helper()
	if !s.Draw(i, v, err) {
		t.Errorf("Draw(%d, %d, %d): false", i, v, err)
	}
}

func give(t *testing.T, s *State, i int) {
	t.Helper()
	if !s.Give(i) {
		t.Errorf("Give(%d): false", i)
	}
}

// P17.1: New, At
func TestNew(t *testing.T) {
	see(t, New(board(t, few())), api.Span{}, fewAtFirst()...)
	atFirst := make([]api.Span, 768)
	for i := range atFirst {
		atFirst[i] = of(19000000, 21000000)
	}
	see(t, New(board(t, full(1000000))), api.Span{}, atFirst...)
}

// P17.1: the wells are by deck's Start, each state's apart; the board itself stays as it is.
func TestBoardsAreLeftAlone(t *testing.T) {
	b := board(t, few())
	s := New(b)
	draw(t, s, 1, 500, 10)
	give(t, s, 0)
	draw(t, s, 6, 3, 1)
	if got := b.Start(); !slices.Equal(got, fewAtFirst()) {
		t.Errorf("Start: %v", got)
	}
	if got := b.Tables(); got != 0 {
		t.Errorf("Tables: %d", got)
	}
	other := New(b)
	see(t, other, api.Span{}, fewAtFirst()...)
	draw(t, other, 6, 20, 0)
	if got, _ := s.At(6); got != of(16, 18) {
		t.Errorf("At(6): %v behind a draw of another", got)
	}
}

// P17.1: of no board there are no wells, nor of one of nothing.
func TestOfNoWells(t *testing.T) {
	for _, s := range []*State{New(nil), New(nil).Clone(), New(board(t, api.Deck{})), New(board(t, api.Deck{})).Clone()} {
		for _, i := range []int{0, 1, -1, lowest, highest} {
			if s.Draw(i, 0, 0) || s.Draw(i, 1, 1) || s.Give(i) {
				t.Errorf("a well %d of none", i)
			}
		}
		see(t, s, api.Span{})
	}
}

// P17.1: Draw
func TestDraw(t *testing.T) {
	for _, x := range []struct {
		tol, fill, v, err int64
		there, tip        api.Span
	}{
		// the chapter's example
		{0, 20, 10, 1, of(9, 11), of(9, 11)},
		// exact ones
		{0, 20, 0, 0, of(20, 20), of(0, 0)},
		{0, 20, 1, 0, of(19, 19), of(1, 1)},
		{0, 20, 19, 0, of(1, 1), of(19, 19)},
		{0, 20, 20, 0, of(0, 0), of(20, 20)},
		// off by less than it, by as much, by more
		{0, 20, 5, 4, of(11, 19), of(1, 9)},
		{0, 20, 5, 5, of(10, 20), of(0, 10)},
		{0, 20, 5, 6, of(9, 20), of(0, 11)},
		{0, 20, 0, 1, of(19, 20), of(0, 1)},
		{0, 20, 0, 20, of(0, 20), of(0, 20)},
		{0, 20, 1, 19, of(0, 20), of(0, 20)},
		{0, 20, 10, 10, of(0, 20), of(0, 20)},
		{0, 20, 11, 9, of(0, 18), of(2, 20)},
		{0, 20, 19, 1, of(0, 2), of(18, 20)},
		// of a well that isn't known quite
		{3, 20, 10, 0, of(7, 13), of(10, 10)},
		{3, 20, 10, 1, of(6, 14), of(9, 11)},
		{3, 20, 16, 1, of(0, 8), of(15, 17)},
		{3, 20, 17, 0, of(0, 6), of(17, 17)},
		{3, 20, 1, 16, of(0, 23), of(0, 17)},
		{3, 2, 0, 0, of(0, 5), of(0, 0)},
		{1000000, 20000000, 18990000, 10000, of(0, 2020000), of(18980000, 19000000)},
	} {
		s := begun(t, x.tol, 77, x.fill, 78)
		draw(t, s, 1, x.v, x.err)
		see(t, s, x.tip, around(77, x.tol), x.there, around(78, x.tol))
	}
}

// P17.1: what is drawn comes to what is in the tip, from whichever well.
func TestDrawOften(t *testing.T) {
	s := New(board(t, few()))
	wells := fewAtFirst()
	draw(t, s, 1, 100, 3)
	wells[1] = of(797, 1003)
	see(t, s, of(97, 103), wells...)
	draw(t, s, 1, 2, 5)
	wells[1] = of(790, 1003)
	see(t, s, of(97, 110), wells...)
	draw(t, s, 6, 4, 1)
	wells[6] = of(15, 17)
	see(t, s, of(100, 115), wells...)
	draw(t, s, 0, 0, 0)
	see(t, s, of(100, 115), wells...)
	draw(t, s, 1, 790, 0)
	wells[1] = of(0, 213)
	see(t, s, of(890, 905), wells...)
}

// P17.1: false, and nothing is changed.
func TestDrawOfNone(t *testing.T) {
	for _, x := range []struct {
		i      int
		v, err int64
	}{
		// no such well
		{9, 1, 0}, {9, 0, 0}, {10, 1, 0}, {-1, 0, 0}, {-1, 1, 0}, {-8, 1, 0}, {lowest, 0, 0}, {highest, 0, 0}, {1 << 32, 0, 0}, {1<<32 + 1, 1, 0}, {-1 << 32, 0, 0},
		// v or err below 0, though together they aren't
		{1, -1, 0}, {1, 0, -1}, {1, -1, -1}, {1, -1, 1}, {1, -1, 5}, {1, -5, 100}, {1, 1, -1}, {1, 5, -1}, {1, 100, -100}, {1, lowest, 0}, {1, 0, lowest}, {1, lowest, highest}, {1, highest, lowest}, {1, lowest, lowest},
		// more than there is at least
		{1, 901, 0}, {1, 0, 901}, {1, 900, 1}, {1, 1, 900}, {1, 450, 451}, {1, 451, 450}, {1, 1000, 0}, {1, 1100, 0}, {1, 1101, 0}, {1, maxDraw, 0}, {1, 0, maxDraw}, {1, maxDraw, maxDraw},
		{6, 21, 0}, {6, 0, 21}, {6, 20, 1}, {6, 10, 11},
		{0, 1, 0}, {0, 0, 1}, {2, 1, 0}, {3, 1, 0}, {3, 0, 1}, {5, 1, 0}, {5, 0, 1}, {8, 1, 0}, {8, 7, 7},
		// more than a draw is
		{1, maxDraw + 1, 0}, {1, 0, maxDraw + 1}, {1, highest, 0}, {1, 0, highest}, {1, highest, highest}, {1, highest, 1}, {1, 1, highest}, {1, 1 << 62, 1 << 62}, {1, 1 << 32, 0},
	} {
		s := New(board(t, few()))
		if s.Draw(x.i, x.v, x.err) {
			t.Errorf("Draw(%d, %d, %d): true", x.i, x.v, x.err)
		}
		see(t, s, api.Span{}, fewAtFirst()...)
		// with something in the tip
		draw(t, s, 6, 2, 1)
		wells := fewAtFirst()
		wells[6] = of(17, 19)
		if s.Draw(x.i, x.v, x.err) {
			t.Errorf("Draw(%d, %d, %d): true with a tip that isn't empty", x.i, x.v, x.err)
		}
		see(t, s, of(1, 3), wells...)
	}
}

// gathered: the first of its wells has all that is on a full deck, each of the others nothing.
func gathered(t *testing.T) *State {
	t.Helper()
	s := New(board(t, full(0)))
	for i := 1; i < 768; i++ {
		draw(t, s, i, maxVolume, 0)
	}
	give(t, s, 0)
	return s
}

// P17.1: a draw is of at most 10^9, off by at most 10^9, however much there is.
func TestDrawAtMost(t *testing.T) {
	const all = 768 * maxVolume // 15360000000
	for _, x := range []struct {
		v, err     int64
		ok         bool
		there, tip api.Span
	}{
		{maxDraw, 0, true, of(all-maxDraw, all-maxDraw), of(maxDraw, maxDraw)},
		{0, maxDraw, true, of(all-maxDraw, all), of(0, maxDraw)},
		{maxDraw, maxDraw, true, of(all-2*maxDraw, all), of(0, 2*maxDraw)},
		{maxDraw, maxDraw - 1, true, of(all-2*maxDraw+1, all-1), of(1, 2*maxDraw-1)},
		{maxDraw - 1, 1, true, of(all-maxDraw, all-maxDraw+2), of(maxDraw-2, maxDraw)},
		{maxDraw, 1, true, of(all-maxDraw-1, all-maxDraw+1), of(maxDraw-1, maxDraw+1)},
		{maxDraw + 1, 0, false, of(all, all), of(0, 0)},
		{0, maxDraw + 1, false, of(all, all), of(0, 0)},
		{maxDraw + 1, maxDraw, false, of(all, all), of(0, 0)},
		{maxDraw, maxDraw + 1, false, of(all, all), of(0, 0)},
		{1 << 32, 0, false, of(all, all), of(0, 0)},
		{1<<32 + 1, 0, false, of(all, all), of(0, 0)},
		{0, 1 << 33, false, of(all, all), of(0, 0)},
		{all, 0, false, of(all, all), of(0, 0)},
	} {
		s := gathered(t)
		if ok := s.Draw(0, x.v, x.err); ok != x.ok {
			t.Errorf("Draw(0, %d, %d): %v", x.v, x.err, ok)
		}
		if got, _ := s.At(0); got != x.there || s.Tip() != x.tip {
			t.Errorf("behind Draw(0, %d, %d): %v, %v, not %v, %v", x.v, x.err, got, s.Tip(), x.there, x.tip)
		}
	}
}

// P17.1: Give
func TestGive(t *testing.T) {
	s := New(board(t, few()))
	wells := fewAtFirst()
	// nothing
	give(t, s, 1)
	give(t, s, 0)
	see(t, s, api.Span{}, wells...)
	// into another one, into one that isn't known quite, back to where it was
	draw(t, s, 1, 100, 3)
	give(t, s, 0)
	wells[0], wells[1] = of(97, 103), of(797, 1003)
	see(t, s, api.Span{}, wells...)
	draw(t, s, 0, 10, 20)
	give(t, s, 5)
	wells[0], wells[5] = of(67, 103), of(0, 229)
	see(t, s, api.Span{}, wells...)
	draw(t, s, 1, 50, 1)
	give(t, s, 1)
	wells[1] = of(795, 1005)
	see(t, s, api.Span{}, wells...)
	// only once
	give(t, s, 1)
	give(t, s, 8)
	see(t, s, api.Span{}, wells...)
	// from two into one
	draw(t, s, 6, 5, 1)
	draw(t, s, 0, 7, 0)
	give(t, s, 8)
	wells[6], wells[0], wells[8] = of(14, 16), of(60, 96), of(11, 27)
	see(t, s, api.Span{}, wells...)
}

// P17.1: false, and nothing is changed.
func TestGiveIntoNone(t *testing.T) {
	s := New(board(t, few()))
	strangers := []int{9, 10, -1, -9, lowest, highest, 1 << 32, -1 << 32}
	for _, i := range strangers {
		if s.Give(i) {
			t.Errorf("Give(%d): true", i)
		}
		see(t, s, api.Span{}, fewAtFirst()...)
	}
	draw(t, s, 6, 2, 1)
	wells := fewAtFirst()
	wells[6] = of(17, 19)
	for _, i := range strangers {
		if s.Give(i) {
			t.Errorf("Give(%d): true", i)
		}
		see(t, s, of(1, 3), wells...)
	}
}

// P17.1: Drop tells whether nothing is in the tip, and changes nothing.
func TestDrop(t *testing.T) {
	for _, x := range []struct {
		v, err int64
		ok     bool
	}{{0, 0, true}, {1, 0, false}, {0, 1, false}, {1, 1, false}, {2, 1, false}, {20, 0, false}, {0, 20, false}} {
		s := New(board(t, few()))
		draw(t, s, 6, x.v, x.err)
		tip := s.Tip()
		for range 3 {
			if got := s.Drop(); got != x.ok || s.Tip() != tip {
				t.Errorf("Drop behind a draw of %d, %d: %v, %v", x.v, x.err, got, s.Tip())
			}
		}
		wells := fewAtFirst()
		wells[6] = of(20-x.v-x.err, 20-max(x.v-x.err, 0))
		see(t, s, tip, wells...)
		give(t, s, 0)
		if !s.Drop() {
			t.Errorf("Drop behind a give: false")
		}
	}
}

// P17.1: a clone is the same, and neither knows what becomes of the other.
func TestClone(t *testing.T) {
	s := New(board(t, few()))
	see(t, s.Clone(), api.Span{}, fewAtFirst()...)
	draw(t, s, 1, 100, 3)
	wells := fewAtFirst()
	wells[1] = of(797, 1003)
	c := s.Clone()
	see(t, c, of(97, 103), wells...)
	// the clone goes on
	give(t, c, 0)
	draw(t, c, 6, 20, 0)
	see(t, s, of(97, 103), wells...)
	theirs := slices.Clone(wells)
	theirs[0], theirs[6] = of(97, 103), of(0, 0)
	see(t, c, of(20, 20), theirs...)
	// the first one goes on
	draw(t, s, 1, 797, 0)
	give(t, s, 8)
	wells[1], wells[8] = of(0, 206), of(894, 914)
	see(t, s, api.Span{}, wells...)
	see(t, c, of(20, 20), theirs...)
	// a clone of a clone
	g := c.Clone()
	give(t, c, 2)
	see(t, g, of(20, 20), theirs...)
}

// model: the same by numbers that never run over, and the chapter's words.
type model struct {
	lo, hi       []*big.Int
	tipLo, tipHi *big.Int
}

func modelOf(l []api.Span) *model {
	m := &model{tipLo: new(big.Int), tipHi: new(big.Int)}
	for _, s := range l {
		m.lo, m.hi = append(m.lo, big.NewInt(s.Lo)), append(m.hi, big.NewInt(s.Hi))
	}
	return m
}

func (m *model) draw(i int, v, err int64) bool {
	if i < 0 || i >= len(m.lo) || v < 0 || err < 0 || v > maxDraw || err > maxDraw {
		return false
	}
	more := new(big.Int).Add(big.NewInt(v), big.NewInt(err))
	less := new(big.Int).Sub(big.NewInt(v), big.NewInt(err))
	if less.Sign() < 0 {
		less.SetInt64(0)
	}
	if m.lo[i].Cmp(more) < 0 {
		return false
	}
	m.lo[i].Sub(m.lo[i], more)
	m.hi[i].Sub(m.hi[i], less)
	m.tipLo.Add(m.tipLo, less)
	m.tipHi.Add(m.tipHi, more)
	return true
}

func (m *model) give(i int) bool {
	if i < 0 || i >= len(m.lo) {
		return false
	}
	m.lo[i].Add(m.lo[i], m.tipLo)
	m.hi[i].Add(m.hi[i], m.tipHi)
	m.tipLo.SetInt64(0)
	m.tipHi.SetInt64(0)
	return true
}

// like: a state is as the model is.
func (m *model) like(s *State) bool {
	same := func(got api.Span, lo, hi *big.Int) bool {
		return big.NewInt(got.Lo).Cmp(lo) == 0 && big.NewInt(got.Hi).Cmp(hi) == 0
	}
	for i := range m.lo {
		if got, ok := s.At(i); !ok || !same(got, m.lo[i], m.hi[i]) {
			return false
		}
	}
	return same(s.Tip(), m.tipLo, m.tipHi) && s.Drop() == (m.tipLo.Sign() == 0 && m.tipHi.Sign() == 0)
}

// amount: often about what there is, or about an edge.
func amount(r *rand.Rand, about int64) int64 {
	switch r.Intn(10) {
	case 0:
		return about + int64(r.Intn(5)) - 2
	case 1:
		return about/2 + int64(r.Intn(3)) - 1
	case 2:
		return int64(r.Intn(5)) - 2
	case 3:
		return []int64{maxDraw, maxDraw + 1, maxDraw - 1, -1, lowest, highest, 1 << 32}[r.Intn(7)]
	case 4, 5:
		return r.Int63n(about/3 + 2)
	}
	return r.Int63n(about/20 + 1)
}

// P17.1: draws, gives and clones at random, against the model.
func TestAtRandom(t *testing.T) {
	r := rand.New(rand.NewSource(17))
	var drawn, refused, given, nowhere int
	for range 300 {
		d := few()
		d.Wares[0].Tol = r.Int63n(300)
		for i := range d.Fills {
			d.Fills[i].V = r.Int63n([]int64{3, 1000, maxVolume + 1}[r.Intn(3)])
		}
		b := board(t, d)
		s, m := New(b), modelOf(b.Start())
		for range 100 {
			i := r.Intn(11) - 1
			if r.Intn(4) == 0 {
				ok := s.Give(i)
				if ok {
					given++
				} else {
					nowhere++
				}
				if ok != m.give(i) {
					t.Fatalf("Give(%d): %v", i, ok)
				}
			} else {
				there, _ := s.At(i)
				v, err := amount(r, there.Lo), amount(r, there.Lo)
				if r.Intn(3) == 0 {
					err = there.Lo - v + int64(r.Intn(3)) - 1
				}
				ok := s.Draw(i, v, err)
				if ok {
					drawn++
				} else {
					refused++
				}
				if ok != m.draw(i, v, err) {
					t.Fatalf("Draw(%d, %d, %d) of %v: %v", i, v, err, there, ok)
				}
			}
			if !m.like(s) {
				t.Fatal("not like the model")
			}
			if r.Intn(10) == 0 {
				s = s.Clone()
			}
		}
	}
	if drawn < 5000 || refused < 5000 || given < 5000 || nowhere < 1000 {
		t.Errorf("%d drawn, %d refused, %d given, %d given nowhere", drawn, refused, given, nowhere)
	}
}

// P17.1: nothing runs over, however often a full deck is drawn from and given to: what its wells and its tip have at least, and what they may have, is together what it was.
func TestNothingRunsOver(t *testing.T) {
	r := rand.New(rand.NewSource(171))
	s := New(board(t, full(1000000)))
	const all = 768 * (19000000 + 21000000)
	for k := range 40000 {
		i := r.Intn(768)
		there, _ := s.At(i)
		if v := r.Int63n(min(there.Lo, maxDraw) + 1); !s.Draw(i, v, min(there.Lo-v, r.Int63n(v/4+3))) {
			t.Fatalf("Draw of %d from %v: false", v, there)
		}
		if k%3 == 0 {
			give(t, s, r.Intn(4)*r.Intn(192))
		}
		if k%1000 > 0 {
			continue
		}
		sum := s.Tip().Lo + s.Tip().Hi
		for i := range 768 {
			got, _ := s.At(i)
			if got.Lo < 0 || got.Lo > got.Hi {
				t.Fatalf("At(%d): %v", i, got)
			}
			sum += got.Lo + got.Hi
		}
		if sum != all {
			t.Fatalf("%d together, not %d", sum, all)
		}
	}
}

// true volumes: what really is in the wells and in the tip.
type truth struct {
	wells []int64
	tip   int64
}

// within: what is true is one of what may be.
func (x *truth) within(t *testing.T, s *State) {
	t.Helper()
	for i, v := range x.wells {
		if got, ok := s.At(i); !ok || v < got.Lo || v > got.Hi {
			t.Fatalf("P17.2: %d is in well %d, not within %v", v, i, got)
		}
	}
	if got := s.Tip(); x.tip < got.Lo || x.tip > got.Hi {
		t.Fatalf("P17.2: %d is in the tip, not within %v", x.tip, got)
	}
}

// pick: one of lo to hi, by how: the least, the greatest, any.
func pick(r *rand.Rand, how int, lo, hi int64) int64 {
	switch how {
	case 0:
		return lo
	case 1:
		return hi
	}
	return lo + r.Int63n(hi-lo+1)
}

// P17.2: whatever the fills are within their bounds, however far each draw is off.
func TestWithin(t *testing.T) {
	r := rand.New(rand.NewSource(172))
	drawn := 0
	for k := range 600 {
		tol := r.Int63n(60)
		s := begun(t, tol, r.Int63n(2000), 1000, r.Int63n(100), 0, 0)
		x := &truth{wells: make([]int64, 5)}
		for i := range x.wells {
			at, _ := s.At(i)
			x.wells[i] = pick(r, k%4, at.Lo, at.Hi)
		}
		x.within(t, s)
		for range 60 {
			i := r.Intn(5)
			if r.Intn(3) == 0 {
				give(t, s, i)
				x.wells[i] += x.tip
				x.tip = 0
			} else if v, err := r.Int63n(80), r.Int63n(10)*r.Int63n(10); s.Draw(i, v, err) {
				drawn++
				off := pick(r, (k/4)%3, max(v-err, 0), v+err)
				x.wells[i] -= off
				x.tip += off
			}
			x.within(t, s)
			if r.Intn(20) == 0 {
				s = s.Clone()
			}
		}
	}
	if drawn < 5000 {
		t.Errorf("only %d draws", drawn)
	}
}

// P17.2: each end may be true: of a least fill with draws that are too great, of a greatest one with draws that are too small.
func TestEndsMayBeTrue(t *testing.T) {
	for _, x := range []struct{ v, err int64 }{{10, 1}, {3, 5}, {0, 2}, {7, 7}, {5, 0}} {
		s := begun(t, 3, 100, 100)
		less, more := max(x.v-x.err, 0), x.v+x.err
		for range 4 {
			draw(t, s, 0, x.v, x.err)
		}
		see(t, s, of(4*less, 4*more), of(97-4*more, 103-4*less), of(97, 103))
		give(t, s, 1)
		see(t, s, api.Span{}, of(97-4*more, 103-4*less), of(97+4*less, 103+4*more))
	}
}

// DOC.md's eighth rule: what is told hangs on what a state was told before, on nothing else; many go on at once from one.
func TestSameAgain(t *testing.T) {
	b := board(t, few())
	first := New(b)
	draw(t, first, 1, 100, 3)
	tell := func() string {
		var text strings.Builder
		for _, s := range []*State{New(b), first.Clone()} {
			r := rand.New(rand.NewSource(173))
			for range 300 {
				i := r.Intn(11) - 1
				ok := s.Draw(i, r.Int63n(50), r.Int63n(8))
				at, there := s.At(i)
				fmt.Fprint(&text, ok, at, there, s.Tip(), s.Drop(), s.Give(r.Intn(10)), "\n")
			}
		}
		return text.String()
	}
	told := tell()
	got := make([]string, 8)
	var all sync.WaitGroup
	for k := range got {
		all.Go(func() { got[k] = tell() })
	}
	all.Wait()
	for _, text := range got {
		if text != told {
			t.Error("not the same for many at once")
		}
	}
}
