package deck

import (
	"fmt"
	"math"
	"math/rand"
	"reflect"
	"slices"
	"strconv"
	"strings"
	"sync"
	"testing"

	"dipper/api"
	"dipper/lex"
	"dipper/table"
	"dipper/ware"
	"dipper/well"
)

const longest = "abcdefghijklmnop"

func round(h, a0, a1 int64) api.Section { return api.Section{Round: true, H: h, A0: a0, A1: a1} }

func box(h, a0, b0, a1, b1 int64) api.Section {
	return api.Section{H: h, A0: a0, B0: b0, A1: a1, B1: b1}
}

func shaped(s ...api.Section) []api.Section { return s }

func wellAt(name string, row, col int) api.Well { return api.Well{Ware: name, Row: row, Col: col} }

func fill(name string, row, col int, v int64) api.Fill {
	return api.Fill{W: wellAt(name, row, col), V: v}
}

// full is a deck of five shapes: plate and twin have one, tall and all tips but t3 another one, trough, lone and t3 one each. Its fills are in no order.
func full() api.Deck {
	return api.Deck{
		Wares: []api.Ware{
			{Name: "plate", Rows: 2, Cols: 3, Tol: 100, Shape: shaped(box(10000, 8000, 8000, 8000, 8000))},
			{Name: "trough", Rows: 1, Cols: 1, Tol: 0, Shape: shaped(round(2000, 0, 4000), box(20000, 9000, 9000, 9000, 9000))},
			{Name: "twin", Rows: 3, Cols: 2, Tol: 7, Shape: shaped(box(10000, 8000, 8000, 8000, 8000))},
			{Name: "tall", Rows: 1, Cols: 4, Tol: 1000000, Shape: shaped(box(50000, 1000, 1000, 1000, 1000))},
			{Name: "lone", Rows: 1, Cols: 1, Tol: 3, Shape: shaped(box(10000, 8000, 8000, 8000, 8001))},
		},
		Tips: []api.Tip{
			{Name: "t1", Cap: 100000, Filter: 20000, Err: 10, Outer: shaped(box(50000, 1000, 1000, 1000, 1000))},
			{Name: "t2", Cap: 1000000, Filter: 30000, Err: 100, Outer: shaped(box(50000, 1000, 1000, 1000, 1000))},
			{Name: "plate", Cap: 1, Filter: 1, Err: 0, Outer: shaped(box(50000, 1000, 1000, 1000, 1000))},
			{Name: "t3", Cap: 20000000, Filter: 60000, Err: 10000, Outer: shaped(round(50000, 1000, 1000))},
		},
		Fills: []api.Fill{
			fill("tall", 0, 2, 20000000), fill("plate", 1, 2, 5), fill("twin", 2, 0, 7), fill("plate", 0, 0, 300000), fill("tall", 0, 0, 0),
			fill("trough", 0, 0, 900000), fill("twin", 0, 1, 6), fill("twin", 1, 1, 8), fill("tall", 0, 3, 1000000), fill("plate", 0, 2, 100), fill("lone", 0, 0, 0),
		},
	}
}

// shapes of full, one of each.
const shapesOfFull = 5

// greatest has as much of all as a deck may have.
func greatest() api.Deck {
	var d api.Deck
	for i := range 8 {
		x := api.Ware{Name: longest[:15] + strconv.Itoa(i), Rows: 8, Cols: 12, Tol: 1000000}
		x.Shape = shaped(round(100, 0, 1), box(100, 0, 0, 1, 1), round(100, int64(i), 20000), box(59700, 20000, 20000, 20000, 20000))
		d.Wares = append(d.Wares, x)
		for at := range 8 * 12 {
			d.Fills = append(d.Fills, fill(x.Name, at/12, at%12, 20000000-int64(at)))
		}
	}
	for i := range 4 {
		d.Tips = append(d.Tips, api.Tip{Name: longest[:15] + strconv.Itoa(i), Cap: 20000000, Filter: 60000, Err: 10000, Outer: shaped(round(60000, int64(i), 20000))})
	}
	return d
}

func board(t *testing.T, d api.Deck) *Board {
	t.Helper()
	b, e := New(d)
	if b == nil || e != api.OK {
		t.Fatalf("New: %d, of %v", e, d)
	}
	return b
}

func getWell(t *testing.T, b *Board, w api.Well) *table.Table {
	t.Helper()
	made, e := b.Well(w)
	if made == nil || e != api.OK {
		t.Fatalf("Well(%v): %d", w, e)
	}
	return made
}

func getTip(t *testing.T, b *Board, name string) *table.Table {
	t.Helper()
	_, made, e := b.Tip(name)
	if made == nil || e != api.OK {
		t.Fatalf("Tip(%q): %d", name, e)
	}
	return made
}

func tables(t *testing.T, b *Board, want int64) {
	t.Helper()
	if got := b.Tables(); got != want {
		t.Errorf("Tables: %d, not %d", got, want)
	}
}

// like: does made answer as a table that table.Of makes of s?
func like(made *table.Table, s []api.Section) bool {
	fresh, e := table.Of(s)
	if e != api.OK || made == nil || made.Slices() != fresh.Slices() || made.Height() != fresh.Height() {
		return false
	}
	for i := range fresh.Slices() + 1 {
		if made.Low(i) != fresh.Low(i) || made.High(i) != fresh.High(i) || made.True(i, 77) != fresh.True(i, 77) {
			return false
		}
	}
	return true
}

// same: do they tell the same, a nil list and an empty one being one?
func same(a, b api.Deck) bool { return fmt.Sprintf("%#v", plain(a)) == fmt.Sprintf("%#v", plain(b)) }

// plain is d with nil for each list of nothing.
func plain(d api.Deck) api.Deck {
	var c api.Deck
	for _, x := range d.Wares {
		x.Shape = append(shaped(), x.Shape...)
		c.Wares = append(c.Wares, x)
	}
	for _, x := range d.Tips {
		x.Outer = append(shaped(), x.Outer...)
		c.Tips = append(c.Tips, x)
	}
	c.Fills = append(c.Fills, d.Fills...)
	return c
}

// spoil changes all that hangs on d, the spare room behind its lists included.
func spoil(d api.Deck) {
	sections := func(s []api.Section) {
		for i := range s[:cap(s)] {
			s[:cap(s)][i] = api.Section{Round: true, H: 77, A0: -1, B0: -2, A1: -3, B1: -4}
		}
	}
	for i := range d.Wares[:cap(d.Wares)] {
		sections(d.Wares[:cap(d.Wares)][i].Shape)
		d.Wares[:cap(d.Wares)][i] = api.Ware{Name: "spoilt", Rows: -1, Cols: 99, Tol: -5}
	}
	for i := range d.Tips[:cap(d.Tips)] {
		sections(d.Tips[:cap(d.Tips)][i].Outer)
		d.Tips[:cap(d.Tips)][i] = api.Tip{Name: "spoilt", Cap: -1, Filter: -2, Err: -3}
	}
	for i := range d.Fills[:cap(d.Fills)] {
		d.Fills[:cap(d.Fills)][i] = fill("spoilt", -1, -2, -3)
	}
}

// allWells of d in the order of their numbers, each with its ware's place.
func allWells(d api.Deck) ([]api.Well, []int) {
	var all []api.Well
	var of []int
	for i, x := range d.Wares {
		for row := range x.Rows {
			for col := range x.Cols {
				all, of = append(all, wellAt(x.Name, row, col)), append(of, i)
			}
		}
	}
	return all, of
}

// wantStart is the promise in other words: each well looks for its fill.
func wantStart(d api.Deck) []api.Span {
	all, of := allWells(d)
	start := []api.Span{}
	for k, w := range all {
		var s api.Span
		if i := slices.IndexFunc(d.Fills, func(f api.Fill) bool { return f.W == w }); i >= 0 {
			v, tol := d.Fills[i].V, d.Wares[of[k]].Tol
			s = api.Span{Lo: v - tol, Hi: v + tol}
			if s.Lo < 0 {
				s.Lo = 0
			}
		}
		start = append(start, s)
	}
	return start
}

// wellStrangers are wells that d hasn't: around each ware, of other names, of tips.
func wellStrangers(d api.Deck) []api.Well {
	s := []api.Well{{}, wellAt("none", 0, 0), wellAt("t1", 0, 0), wellAt("", 1, 1), wellAt(longest+"q", 0, 0), wellAt("plate.A1", 0, 0)}
	for _, x := range d.Wares {
		for _, row := range []int{math.MinInt, -1 << 32, -x.Rows, -1, x.Rows, x.Rows + 1, 8, 1 << 32, math.MaxInt} {
			s = append(s, wellAt(x.Name, row, 0), wellAt(x.Name, row, x.Cols-1), wellAt(x.Name, row, row))
		}
		for _, col := range []int{math.MinInt, -1 << 32, -x.Cols, -1, x.Cols, x.Cols + 1, 12, 1 << 32, math.MaxInt} {
			s = append(s, wellAt(x.Name, 0, col), wellAt(x.Name, x.Rows-1, col))
		}
		s = append(s, wellAt(strings.ToUpper(x.Name), 0, 0), wellAt(x.Name+" ", 0, 0), wellAt(x.Name[1:], 0, 0), wellAt(x.Name[:len(x.Name)-1], 0, 0))
	}
	// a part of a name may be another one's
	there, _ := allWells(d)
	return slices.DeleteFunc(s, func(w api.Well) bool { return slices.Contains(there, w) })
}

// tipStrangers are names of no tip of d, those of its wares included.
func tipStrangers(d api.Deck) []string {
	s := []string{"", "none", "t", "T1", "t1 ", " t1", "t11", "t1\x00", "t1.A1", longest + "q", "\xff", strings.Repeat("t1", 1000)}
	for _, x := range d.Wares {
		s = append(s, x.Name)
	}
	return slices.DeleteFunc(s, func(name string) bool {
		return slices.ContainsFunc(d.Tips, func(x api.Tip) bool { return x.Name == name })
	})
}

// checkStrangers: what isn't there is told, and makes nothing.
func checkStrangers(t *testing.T, b *Board, d api.Deck) {
	t.Helper()
	ahead := b.Tables()
	for _, w := range wellStrangers(d) {
		if made, e := b.Well(w); made != nil || e != api.ErrWell {
			t.Errorf("Well(%v): %d", w, e)
		}
	}
	for _, name := range tipStrangers(d) {
		if got, made, e := b.Tip(name); !reflect.DeepEqual(got, api.Tip{}) || made != nil || e != api.ErrTip {
			t.Errorf("Tip(%q): %v, %d", name, got, e)
		}
	}
	tables(t, b, ahead)
}

// checkBoard holds all that a board of d answers against the chapter.
func checkBoard(t *testing.T, d api.Deck) {
	t.Helper()
	b := board(t, d)
	tables(t, b, 0)
	checkStrangers(t, b, d)
	if got := b.Deck(); !same(got, d) {
		t.Errorf("Deck: %v, not %v", got, d)
	}
	if got := b.Start(); !slices.Equal(got, wantStart(d)) {
		t.Errorf("Start: %v, not %v", got, wantStart(d))
	}
	tables(t, b, 0)
	met := map[string]*table.Table{}
	meet := func(s []api.Section, made *table.Table) {
		if key := fmt.Sprint(s); met[key] == nil {
			met[key] = made
		} else if met[key] != made {
			t.Errorf("two tables of %v", s)
		}
		if !like(made, s) {
			t.Errorf("not the table of %v", s)
		}
		tables(t, b, int64(len(met)))
	}
	all, of := allWells(d)
	for i, w := range all {
		// the first well of a ware and its last one, ahead of the others
		if i > 0 && i < len(all)-1 && of[i] == of[i-1] && of[i] == of[i+1] {
			if s := d.Wares[of[i]].Shape; getWell(t, b, w) != met[fmt.Sprint(s)] {
				t.Errorf("Well(%v): not the table of %v", w, s)
			}
			continue
		}
		meet(d.Wares[of[i]].Shape, getWell(t, b, w))
	}
	for _, x := range d.Tips {
		got, made, e := b.Tip(x.Name)
		if e != api.OK || !reflect.DeepEqual(got, x) {
			t.Errorf("Tip(%q): %v, %d, not %v", x.Name, got, e, x)
		}
		meet(x.Outer, made)
	}
	apart := map[*table.Table]bool{}
	for _, made := range met {
		apart[made] = true
	}
	if len(apart) != len(met) {
		t.Errorf("%d tables of %d shapes", len(apart), len(met))
	}
	checkStrangers(t, b, d)
}

// P11.1
func TestBoards(t *testing.T) {
	checkBoard(t, full())
	checkBoard(t, greatest())
	checkBoard(t, api.Deck{Tips: full().Tips})
	for _, x := range full().Wares {
		checkBoard(t, api.Deck{Wares: []api.Ware{x}})
		checkBoard(t, api.Deck{Wares: []api.Ware{x}, Tips: full().Tips[:1], Fills: []api.Fill{fill(x.Name, 0, 0, 50)}})
	}
}

// P11.1: of a deck of nothing, of lists that are nil or empty.
func TestBoardOfNothing(t *testing.T) {
	checkBoard(t, api.Deck{})
	checkBoard(t, api.Deck{Wares: []api.Ware{}, Tips: []api.Tip{}, Fills: []api.Fill{}})
	checkBoard(t, api.Deck{Wares: full().Wares[:0], Tips: full().Tips[:0], Fills: full().Fills[:0]})
	b := board(t, api.Deck{})
	if d := b.Deck(); len(d.Wares) != 0 || len(d.Tips) != 0 || len(d.Fills) != 0 || len(b.Start()) != 0 {
		t.Errorf("Deck: %v, Start: %v", d, b.Start())
	}
}

// change makes another deck of d, or what is none.
type change func(d *api.Deck)

// wrong are changes that make no deck of full, each by one thing.
func wrong() map[string]change {
	l := map[string]change{
		"a ware's name twice":    func(d *api.Deck) { d.Wares[1].Name = "twin" },
		"a tip's name twice":     func(d *api.Deck) { d.Tips[1].Name = "t1" },
		"a ware without a name":  func(d *api.Deck) { d.Wares[4].Name, d.Fills = "", d.Fills[:10] },
		"a tip without a name":   func(d *api.Deck) { d.Tips[3].Name = "" },
		"a great letter":         func(d *api.Deck) { d.Wares[4].Name, d.Fills = "Lone", d.Fills[:10] },
		"a digit first":          func(d *api.Deck) { d.Tips[0].Name = "1t" },
		"a long name":            func(d *api.Deck) { d.Tips[0].Name = longest + "q" },
		"a ware without a shape": func(d *api.Deck) { d.Wares[3].Shape = nil },
		"a tip without a shape":  func(d *api.Deck) { d.Tips[3].Outer = nil },
		"five sections":          func(d *api.Deck) { d.Wares[4].Shape = slices.Repeat(shaped(box(100, 1, 1, 1, 1)), 5) },
		"between slices":         func(d *api.Deck) { d.Wares[4].Shape[0].H = 10050 },
		"too high":               func(d *api.Deck) { d.Wares[4].Shape[0].H = 60100 },
		"a section of no height": func(d *api.Deck) { d.Tips[2].Outer[0].H = 0 },
		"too wide":               func(d *api.Deck) { d.Wares[4].Shape[0].A1 = 20001 },
		"closed at its top":      func(d *api.Deck) { d.Wares[4].Shape[0].B1 = 0 },
		"a round one with a B":   func(d *api.Deck) { d.Wares[1].Shape[0].B0 = 1 },
		"filled twice":           func(d *api.Deck) { d.Fills[3].W = d.Fills[0].W },
		"a fill of no ware":      func(d *api.Deck) { d.Fills[3].W.Ware = "none" },
		"a fill of a tip":        func(d *api.Deck) { d.Fills[3].W.Ware = "t1" },
		"a fill of no row":       func(d *api.Deck) { d.Fills[3].W.Row = 2 },
		"a fill of no column":    func(d *api.Deck) { d.Fills[3].W.Col = 3 },
		"a fill below row A":     func(d *api.Deck) { d.Fills[3].W.Row = -1 },
		"a fill below column 1":  func(d *api.Deck) { d.Fills[3].W.Col = -1 },
		"a fill below nought":    func(d *api.Deck) { d.Fills[3].V = -1 },
		"too great a fill":       func(d *api.Deck) { d.Fills[3].V = 20000001 },
		"nine wares":             func(d *api.Deck) { *d = greatest(); d.Wares = append(d.Wares, full().Wares[0]) },
		"five tips":              func(d *api.Deck) { d.Tips = append(d.Tips, greatest().Tips[0]) },
	}
	for _, v := range []int{-1, 0, 9, 13, 1 << 32, math.MinInt, math.MaxInt} {
		l["rows "+strconv.Itoa(v)] = func(d *api.Deck) { d.Wares[4].Rows, d.Fills = v, nil }
		if v != 9 {
			l["columns "+strconv.Itoa(v)] = func(d *api.Deck) { d.Wares[4].Cols, d.Fills = v, nil }
		}
	}
	for _, v := range []int64{-1, 1000001, math.MinInt64, math.MaxInt64} {
		l["Tol "+strconv.FormatInt(v, 10)] = func(d *api.Deck) { d.Wares[2].Tol = v }
		l["Err "+strconv.FormatInt(v, 10)] = func(d *api.Deck) { d.Tips[2].Err = v }
	}
	for _, v := range []int64{-1, 0, 20000001, math.MinInt64, math.MaxInt64} {
		l["Cap "+strconv.FormatInt(v, 10)] = func(d *api.Deck) { d.Tips[2].Cap = v }
		l["Filter "+strconv.FormatInt(v, 10)] = func(d *api.Deck) { d.Tips[2].Filter = v }
	}
	l["Err 10001"] = func(d *api.Deck) { d.Tips[2].Err = 10001 }
	l["Filter 60001"] = func(d *api.Deck) { d.Tips[2].Filter = 60001 }
	return l
}

// P11.1
func TestNewOfNone(t *testing.T) {
	for name, alter := range wrong() {
		d := full()
		alter(&d)
		if b, e := New(d); b != nil || e != api.ErrRange {
			t.Errorf("%s: %d, not %d", name, e, api.ErrRange)
		}
	}
}

// P11.1: what is just within bounds.
func TestNewAtBounds(t *testing.T) {
	for name, alter := range map[string]change{
		"one well":                 func(d *api.Deck) { d.Wares[4].Rows, d.Wares[4].Cols = 1, 1 },
		"all wells":                func(d *api.Deck) { d.Wares[4].Rows, d.Wares[4].Cols = 8, 12 },
		"Tol 0":                    func(d *api.Deck) { d.Wares[0].Tol = 0 },
		"the greatest Tol":         func(d *api.Deck) { d.Wares[0].Tol = 1000000 },
		"no fills":                 func(d *api.Deck) { d.Fills = nil },
		"no tips":                  func(d *api.Deck) { d.Tips = nil },
		"a tip of a ware's name":   func(d *api.Deck) { d.Tips[0].Name = "twin" },
		"names turned round":       func(d *api.Deck) { d.Tips[0].Name, d.Tips[1].Name = "t2", "t1" },
		"a fill of each kind":      func(d *api.Deck) { d.Fills[0].V, d.Fills[1].V = 0, 20000000 },
		"a long name":              func(d *api.Deck) { d.Wares[4].Name, d.Fills[10].W.Ware = longest, longest },
		"the highest":              func(d *api.Deck) { d.Wares[4].Shape[0].H = 60000 },
		"the lowest":               func(d *api.Deck) { d.Wares[4].Shape[0].H = 100 },
		"a point at its bottom":    func(d *api.Deck) { d.Wares[4].Shape[0].A0, d.Wares[4].Shape[0].B0 = 0, 0 },
		"four sections":            func(d *api.Deck) { d.Wares[4].Shape = slices.Repeat(shaped(box(100, 1, 1, 1, 1)), 4) },
		"eight wares, four tips":   func(d *api.Deck) { *d = greatest() },
		"all of one shape":         func(d *api.Deck) { allShaped(d, shaped(box(100, 1, 2, 3, 4))) },
		"all of one shape, spared": func(d *api.Deck) { allShaped(d, append(make([]api.Section, 0, 9), round(100, 0, 4), round(200, 4, 9))) },
	} {
		d := full()
		if alter(&d); !ware.Right(d) {
			t.Errorf("%s: not Right", name)
			continue
		}
		checkBoard(t, d)
	}
}

// allShaped lets all wares and tips have that very list.
func allShaped(d *api.Deck, s []api.Section) {
	for i := range d.Wares {
		d.Wares[i].Shape = s
	}
	for i := range d.Tips {
		d.Tips[i].Outer = s
	}
}

// P11.1: decks of any kind, some of them none.
func TestDecksAtRandom(t *testing.T) {
	r := rand.New(rand.NewSource(1))
	right := 0
	for range 3000 {
		d := random(r)
		if ware.Right(d) {
			right++
			checkBoard(t, d)
		} else if b, e := New(d); b != nil || e != api.ErrRange {
			t.Errorf("New of none: %d, of %v", e, d)
		}
	}
	if right < 500 || right > 2500 {
		t.Errorf("%d of 3000 are Right", right)
	}
}

func random(r *rand.Rand) api.Deck {
	pieces := [][]api.Section{
		shaped(box(200, 10, 20, 30, 40)), shaped(box(200, 20, 10, 30, 40)), shaped(box(200, 10, 20, 40, 30)), shaped(round(200, 10, 30)), shaped(box(100, 10, 20, 20, 30), box(100, 20, 30, 30, 40)),
	}
	names := []string{"a", "b", "c", "a1", "b1", "ab", "ware", "tip", "fill"}
	var d api.Deck
	r.Shuffle(len(names), func(i, k int) { names[i], names[k] = names[k], names[i] })
	for i := range r.Intn(6) {
		x := api.Ware{Name: names[i], Rows: 1 + r.Intn(3), Cols: 1 + r.Intn(4), Tol: int64(r.Intn(9)), Shape: slices.Clone(pieces[r.Intn(len(pieces))])}
		d.Wares = append(d.Wares, x)
	}
	r.Shuffle(len(names), func(i, k int) { names[i], names[k] = names[k], names[i] })
	for i := range r.Intn(5) {
		x := api.Tip{Name: names[i], Cap: 1 + int64(r.Intn(9)), Filter: 1 + int64(r.Intn(9)), Err: int64(r.Intn(9)), Outer: slices.Clone(pieces[r.Intn(len(pieces))])}
		d.Tips = append(d.Tips, x)
	}
	all, _ := allWells(d)
	r.Shuffle(len(all), func(i, k int) { all[i], all[k] = all[k], all[i] })
	for _, w := range all[:r.Intn(len(all)+1)] {
		d.Fills = append(d.Fills, api.Fill{W: w, V: int64(r.Intn(20))})
	}
	if r.Intn(2) == 0 {
		disturb(r, &d)
	}
	return d
}

// disturb changes one thing of d, to what may be or not.
func disturb(r *rand.Rand, d *api.Deck) {
	if i := r.Intn(8); i < len(d.Wares) {
		x := &d.Wares[i]
		[]func(){
			func() { x.Name = "b" }, func() { x.Name = "B" }, func() { x.Rows-- }, func() { x.Cols-- }, func() { x.Rows += 6 }, func() { x.Cols += 10 },
			func() { x.Tol -= 5 }, func() { x.Shape = x.Shape[1:] }, func() { x.Shape[0].H += 50 }, func() { x.Shape[0].A1 = 0 },
		}[r.Intn(10)]()
	} else if i := r.Intn(6); i < len(d.Tips) {
		x := &d.Tips[i]
		[]func(){
			func() { x.Name = "b" }, func() { x.Name = "B" }, func() { x.Cap -= 3 }, func() { x.Filter -= 3 }, func() { x.Err -= 3 }, func() { x.Outer = nil }, func() { x.Outer[0].B1++ },
		}[r.Intn(7)]()
	} else if len(d.Fills) > 0 {
		x := &d.Fills[r.Intn(len(d.Fills))]
		[]func(){
			func() { x.W.Ware = "a" }, func() { x.W.Ware = "none" }, func() { x.W.Row++ }, func() { x.W.Col++ }, func() { x.W.Col-- }, func() { x.V -= 5 }, func() { *x = d.Fills[0] },
		}[r.Intn(7)]()
	}
}

// P11.1: a text of a deck comes to a board that tells the text again.
func TestOfAText(t *testing.T) {
	const text = "ware p 2 3 100\nround 2000 0 4000\nbox 20000 9000 9000 9000 9000\nware q 1 1 0\nbox 300 10 10 10 10\ntip p 100000 20000 10\nbox 300 10 10 10 10\nfill q.A1 0\nfill p.B3 60\n"
	l, _, _ := lex.Lines([]byte(text))
	d, _, _, e := ware.Parse(l)
	if e != api.OK {
		t.Fatalf("Parse: %d", e)
	}
	b := board(t, d)
	if got := ware.Print(b.Deck()); got != text {
		t.Errorf("Deck: %q", got)
	}
	if got := b.Start(); !slices.Equal(got, []api.Span{{}, {}, {}, {}, {}, {Lo: 0, Hi: 160}, {}}) {
		t.Errorf("Start: %v", got)
	}
}

// P11.1
func TestStart(t *testing.T) {
	want := []api.Span{
		{Lo: 299900, Hi: 300100}, {}, {Lo: 0, Hi: 200}, {}, {}, {Lo: 0, Hi: 105}, // plate
		{Lo: 900000, Hi: 900000},                                      // trough
		{}, {Lo: 0, Hi: 13}, {}, {Lo: 1, Hi: 15}, {Lo: 0, Hi: 14}, {}, // twin
		{Lo: 0, Hi: 1000000}, {}, {Lo: 19000000, Hi: 21000000}, {Lo: 0, Hi: 2000000}, // tall
		{Lo: 0, Hi: 3}, // lone
	}
	if got := board(t, full()).Start(); !slices.Equal(got, want) {
		t.Errorf("Start: %v, not %v", got, want)
	}
}

// P11.1: fills around a Tol, at both ends of it.
func TestStartAroundTol(t *testing.T) {
	for _, tol := range []int64{0, 1, 2, 999999, 1000000} {
		for _, v := range []int64{0, 1, 2, 3, tol - 1, tol, tol + 1, 2 * tol, 19999999, 20000000} {
			if v < 0 {
				continue
			}
			d := api.Deck{Wares: full().Wares[:3], Fills: []api.Fill{fill("twin", 2, 1, v)}}
			d.Wares[2].Tol = tol
			want := make([]api.Span, 13)
			want[12] = api.Span{Lo: v - min(tol, v), Hi: v + tol}
			if got := board(t, d).Start(); !slices.Equal(got, want) {
				t.Errorf("Start of %d, %d: %v", v, tol, got)
			}
		}
	}
}

// P11.1: a fill is its own well's, whatever the order of fills.
func TestStartOfEachWell(t *testing.T) {
	d := full()
	all, of := allWells(d)
	for i, w := range all {
		d.Fills = []api.Fill{{W: w, V: 5000000}}
		want := make([]api.Span, len(all))
		tol := d.Wares[of[i]].Tol
		want[i] = api.Span{Lo: 5000000 - tol, Hi: 5000000 + tol}
		if got := board(t, d).Start(); !slices.Equal(got, want) {
			t.Errorf("Start of %v: %v", w, got)
		}
	}
	r := rand.New(rand.NewSource(2))
	d, want := full(), wantStart(full())
	for range 20 {
		r.Shuffle(len(d.Fills), func(i, k int) { d.Fills[i], d.Fills[k] = d.Fills[k], d.Fills[i] })
		if got := board(t, d).Start(); !slices.Equal(got, want) {
			t.Errorf("Start of %v: %v", d.Fills, got)
		}
	}
}

// P11.1: a table is made when it is first asked for, and at no other time.
func TestTables(t *testing.T) {
	b := board(t, full())
	for i, ask := range []struct {
		ask  func()
		want int64
	}{
		{func() { b.Deck() }, 0},
		{func() { b.Start() }, 0},
		{func() { b.Well(wellAt("none", 0, 0)) }, 0},
		{func() { b.Well(wellAt("plate", 2, 0)) }, 0},
		{func() { b.Tip("trough") }, 0},
		{func() { b.Well(wellAt("twin", 2, 1)) }, 1},
		{func() { b.Well(wellAt("plate", 0, 0)) }, 1},
		{func() { b.Well(wellAt("plate", 1, 2)) }, 1},
		{func() { b.Tip("t2") }, 2},
		{func() { b.Tip("t1") }, 2},
		{func() { b.Well(wellAt("tall", 0, 3)) }, 2},
		{func() { b.Tip("plate") }, 2},
		{func() { b.Well(wellAt("trough", 0, 1)) }, 2},
		{func() { b.Well(wellAt("trough", 0, 0)) }, 3},
		{func() { b.Tip("t3") }, 4},
		{func() { b.Well(wellAt("lone", 0, 0)) }, shapesOfFull},
		{func() { b.Tip("t3") }, shapesOfFull},
		{func() { b.Start() }, shapesOfFull},
		{func() { b.Deck() }, shapesOfFull},
	} {
		ask.ask()
		if got := b.Tables(); got != ask.want || b.Tables() != got {
			t.Errorf("at %d: Tables: %d, not %d", i, got, ask.want)
		}
	}
}

// P11.1: shapes that differ by one thing have tables of their own, and one shape has one, be it a ware's or a tip's.
func TestOneTableOfAShape(t *testing.T) {
	first := shaped(box(200, 5, 5, 5, 5))
	for _, s := range [][]api.Section{
		shaped(box(200, 5, 5, 5, 5)), shaped(box(100, 5, 5, 5, 5)), shaped(box(200, 6, 5, 5, 5)), shaped(box(200, 5, 6, 5, 5)), shaped(box(200, 5, 5, 6, 5)), shaped(box(200, 5, 5, 5, 6)),
		shaped(round(200, 5, 5)), shaped(box(100, 5, 5, 5, 5), box(100, 5, 5, 5, 5)), shaped(box(200, 5, 5, 5, 5), box(200, 5, 5, 5, 5)),
	} {
		d := full()
		d.Wares[0].Shape, d.Wares[2].Shape, d.Tips[0].Outer, d.Tips[3].Outer = first, s, slices.Clone(s), slices.Clone(first)
		b, one := board(t, d), slices.Equal(first, s)
		p, q := getWell(t, b, wellAt("plate", 0, 0)), getWell(t, b, wellAt("twin", 0, 0))
		x, y := getTip(t, b, "t1"), getTip(t, b, "t3")
		if (p == q) != one || (x == y) != one || p != y || q != x {
			t.Errorf("%v, %v: %p, %p, %p, %p", first, s, p, q, x, y)
		}
		want := int64(2)
		if one {
			want = 1
		}
		tables(t, b, want)
	}
}

// P11.1: a ware and a tip of one name are apart.
func TestNamesAreApart(t *testing.T) {
	b := board(t, full())
	got, made, e := b.Tip("plate")
	if e != api.OK || got.Cap != 1 || made.Height() != 50000 || getWell(t, b, wellAt("plate", 0, 0)).Height() != 10000 {
		t.Errorf("Tip: %v, %d", got, e)
	}
	if made, e := b.Well(wellAt("t1", 0, 0)); made != nil || e != api.ErrWell {
		t.Errorf("Well of a tip: %d", e)
	}
	if _, made, e := b.Tip("twin"); made != nil || e != api.ErrTip {
		t.Errorf("Tip of a ware: %d", e)
	}
}

// P11.1: what one board was asked another one can't tell.
func TestBoardsAreApart(t *testing.T) {
	d := full()
	a, b := board(t, d), board(t, d)
	getWell(t, a, wellAt("plate", 0, 0))
	getTip(t, a, "t1")
	tables(t, a, 2)
	tables(t, b, 0)
	getTip(t, b, "t3")
	tables(t, a, 2)
	tables(t, b, 1)
}

// P11.1, by the way that the chapter names: all wells of a ware ask the cache once together, and each tip once.
func TestAskedOnce(t *testing.T) {
	d := full()
	b := board(t, d)
	all, _ := allWells(d)
	for range 3 {
		for _, w := range all {
			getWell(t, b, w)
		}
		for _, x := range d.Tips {
			getTip(t, b, x.Name)
		}
		checkStrangers(t, b, d)
	}
	if got := b.tables.Asked(); got != 9 {
		t.Errorf("the cache was asked %d times by 9 wares and tips", got)
	}
}

// P11.1, and DOC.md's third rule: what is handed in is neither changed nor kept, the spare room behind it included.
func TestDecksAreLeftAlone(t *testing.T) {
	roomy := func() api.Deck {
		d := full()
		d.Wares, d.Tips, d.Fills = slices.Grow(d.Wares, 3), slices.Grow(d.Tips, 3), slices.Grow(d.Fills, 3)
		for i := range d.Wares {
			d.Wares[i].Shape = slices.Grow(d.Wares[i].Shape, 3)
		}
		for i := range d.Tips {
			d.Tips[i].Outer = slices.Grow(d.Tips[i].Outer, 3)
		}
		return d
	}
	d := roomy()
	b := board(t, d)
	first := getWell(t, b, wellAt("plate", 1, 1))
	b.Tip("t1")
	b.Start()
	b.Deck()
	if !reflect.DeepEqual(d, roomy()) || slices.ContainsFunc(d.Fills[:cap(d.Fills)][len(d.Fills):], func(f api.Fill) bool { return f != api.Fill{} }) {
		t.Errorf("the deck was changed: %v", d)
	}
	spoil(d)
	want := full()
	if got := b.Deck(); !same(got, want) {
		t.Errorf("Deck has changed: %v", got)
	}
	if got := b.Start(); !slices.Equal(got, wantStart(want)) {
		t.Errorf("Start has changed: %v", got)
	}
	if getWell(t, b, wellAt("plate", 0, 0)) != first || !like(getWell(t, b, wellAt("trough", 0, 0)), want.Wares[1].Shape) {
		t.Error("Well has changed")
	}
	if got, made, e := b.Tip("t3"); e != api.OK || !reflect.DeepEqual(got, want.Tips[3]) || !like(made, want.Tips[3].Outer) {
		t.Errorf("Tip has changed: %v, %d", got, e)
	}
}

// P11.1, and DOC.md's third rule: what is answered is new memory.
func TestAnswersAreNew(t *testing.T) {
	want := full()
	b := board(t, want)
	for _, x := range want.Tips {
		got, _, _ := b.Tip(x.Name)
		spoil(api.Deck{Tips: []api.Tip{got}})
	}
	start := b.Start()
	for i := range start[:cap(start)] {
		start[:cap(start)][i] = api.Span{Lo: -5, Hi: -6}
	}
	spoil(b.Deck())
	spoil(b.Deck())
	if got := b.Deck(); !same(got, want) {
		t.Errorf("Deck has changed: %v", got)
	}
	if got := b.Start(); !slices.Equal(got, wantStart(want)) {
		t.Errorf("Start has changed: %v", got)
	}
	for _, x := range want.Tips {
		if got, made, e := b.Tip(x.Name); e != api.OK || !reflect.DeepEqual(got, x) || !like(made, x.Outer) {
			t.Errorf("Tip has changed: %v, %d", got, e)
		}
	}
	for _, x := range want.Wares {
		if !like(getWell(t, b, wellAt(x.Name, 0, 0)), x.Shape) {
			t.Errorf("Well of %q has changed", x.Name)
		}
	}
}

// P11.1: no two lists of one answer share their memory, though those of the deck that was handed in do.
func TestListsAreApart(t *testing.T) {
	d := full()
	one := append(make([]api.Section, 0, 9), box(300, 5, 5, 5, 5))
	allShaped(&d, one)
	got := board(t, d).Deck()
	for i := range got.Wares {
		got.Wares[i].Shape = append(got.Wares[i].Shape, round(100, int64(i), 9))
		got.Wares[i].Shape[0].A0 = int64(i)
	}
	for i := range got.Tips {
		got.Tips[i].Outer = append(got.Tips[i].Outer, round(200, int64(i), 9))
		got.Tips[i].Outer[0].B0 = int64(i)
	}
	for i, x := range got.Wares {
		if !slices.Equal(x.Shape, shaped(box(300, int64(i), 5, 5, 5), round(100, int64(i), 9))) {
			t.Errorf("ware %d: %v", i, x.Shape)
		}
	}
	for i, x := range got.Tips {
		if !slices.Equal(x.Outer, shaped(box(300, 5, int64(i), 5, 5), round(200, int64(i), 9))) {
			t.Errorf("tip %d: %v", i, x.Outer)
		}
	}
	if !slices.Equal(one[:9], append(shaped(box(300, 5, 5, 5, 5)), make([]api.Section, 8)...)) {
		t.Errorf("the shape that was handed in has changed: %v", one[:9])
	}
}

// P11.2: each well, found by its number, knows the shape of its ware, and all wells of that the same table.
func TestEachWellKnowsItsShape(t *testing.T) {
	for _, d := range []api.Deck{full(), greatest()} {
		b := board(t, d)
		number := 0
		for _, x := range d.Wares {
			first := getWell(t, b, wellAt(x.Name, 0, 0))
			if !like(first, x.Shape) {
				t.Errorf("%q: not the table of its shape", x.Name)
			}
			for range x.Rows * x.Cols {
				w, ok := well.At(b.Deck(), number)
				if !ok || w.Ware != x.Name || getWell(t, b, w) != first {
					t.Errorf("well %d, %v: not the table of %q", number, w, x.Name)
				}
				number++
			}
		}
		if got := len(b.Start()); got != number {
			t.Errorf("Start of %d wells: %d", number, got)
		}
	}
}

// P11.1: of many who ask at once, all get one answer, and no table is made twice.
func TestManyAtOnce(t *testing.T) {
	want := full()
	all, of := allWells(want)
	for range 20 {
		b := board(t, want)
		wells := make([][]*table.Table, 16)
		tips := make([][]*table.Table, 16)
		var done sync.WaitGroup
		start := make(chan int)
		for k := range wells {
			wells[k], tips[k] = make([]*table.Table, len(all)), make([]*table.Table, len(want.Tips))
			done.Go(func() {
				<-start
				for j := range all {
					i := (j + k) % len(all)
					wells[k][i], _ = b.Well(all[i])
					b.Well(wellAt("none", k, j))
					b.Tip("none")
					n := (j + k) % len(want.Tips)
					got, made, _ := b.Tip(want.Tips[n].Name)
					tips[k][n] = made
					got.Outer[0].H = int64(k)
					b.Start()[i].Lo = int64(k)
					spoil(b.Deck())
					if n := b.Tables(); n < 1 || n > shapesOfFull {
						t.Errorf("Tables: %d", n)
					}
				}
			})
		}
		close(start)
		done.Wait()
		tables(t, b, shapesOfFull)
		for k := range wells {
			for i, made := range wells[k] {
				if made == nil || made != wells[0][i] || !like(made, want.Wares[of[i]].Shape) {
					t.Fatalf("asker %d, Well(%v): another table", k, all[i])
				}
			}
			for i, made := range tips[k] {
				if made == nil || made != tips[0][i] || !like(made, want.Tips[i].Outer) {
					t.Fatalf("asker %d, Tip(%q): another table", k, want.Tips[i].Name)
				}
			}
		}
		if !same(b.Deck(), want) || !slices.Equal(b.Start(), wantStart(want)) {
			t.Fatalf("changed: %v, %v", b.Deck(), b.Start())
		}
	}
}
