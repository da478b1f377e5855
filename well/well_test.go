package well

import (
	"math"
	"math/rand"
	"reflect"
	"regexp"
	"slices"
	"strconv"
	"strings"
	"sync"
	"testing"

	"dipper/api"
	"dipper/lex"
	"dipper/ware"
)

const (
	maxRows = 8
	maxCols = 12
	longest = "abcdefghijklmnop"
)

var nameForm = regexp.MustCompile(`^[a-z][a-z0-9]{0,15}$`)

// rowOf and colOf are the ways in which chapter 9 writes a row, a column.
func rowOf(s string) int {
	return slices.Index([]string{"A", "B", "C", "D", "E", "F", "G", "H"}, s)
}

func colOf(s string) int {
	return slices.Index([]string{"1", "2", "3", "4", "5", "6", "7", "8", "9", "10", "11", "12"}, s)
}

func wellAt(name string, row, col int) api.Well { return api.Well{Ware: name, Row: row, Col: col} }

// wantParse is the promise in other words: what is behind the last dot is one of a few rows, then one of a few columns.
func wantParse(s string) (api.Well, bool) {
	dot := strings.LastIndex(s, ".")
	if dot < 0 || len(s) < dot+2 || !nameForm.MatchString(s[:dot]) {
		return api.Well{}, false
	}
	w := wellAt(s[:dot], rowOf(s[dot+1:dot+2]), colOf(s[dot+2:]))
	if w.Row < 0 || w.Col < 0 {
		return api.Well{}, false
	}
	return w, true
}

// checkParse answers whether a well is written so.
func checkParse(t *testing.T, s string) bool {
	t.Helper()
	got, ok := Parse(s)
	want, wantOK := wantParse(s)
	if got != want || ok != wantOK {
		t.Errorf("Parse(%q): %v, %v, not %v, %v", s, got, ok, want, wantOK)
	}
	if text := Text(got); ok && text != s {
		t.Errorf("Parse(%q): %v, whose Text is %q", s, got, text)
	}
	return ok
}

// P10.1
func TestParse(t *testing.T) {
	for s, want := range map[string]api.Well{
		"p.B3":                 wellAt("p", 1, 2),
		"plate.A1":             wellAt("plate", 0, 0),
		"plate.H12":            wellAt("plate", 7, 11),
		"p9.A10":               wellAt("p9", 0, 9),
		"ware.H9":              wellAt("ware", 7, 8),
		"z.C11":                wellAt("z", 2, 10),
		"abcdefghijklmnop.D4":  wellAt(longest, 3, 3),
		"a000000000000000.E5":  wellAt("a000000000000000", 4, 4),
		"a.F6":                 wellAt("a", 5, 5),
		"a1.G7":                wellAt("a1", 6, 6),
		longest[:15] + "0.A1":  wellAt("abcdefghijklmno0", 0, 0),
		longest[:15] + ".H1":   wellAt("abcdefghijklmno", 7, 0),
		"zzzzzzzzzzzzzzzz.A12": wellAt("zzzzzzzzzzzzzzzz", 0, 11),
		"fill.B2":              wellAt("fill", 1, 1),
		"m5.B8":                wellAt("m5", 1, 7),
	} {
		if got, ok := Parse(s); got != want || !ok {
			t.Errorf("Parse(%q): %v, %v, not %v", s, got, ok, want)
		}
	}
}

// P10.1: what no well is written as.
func TestParseOfNone(t *testing.T) {
	for _, s := range []string{
		"", ".", "..", "...", "p", "p.", "p..", ".A1", "..A1", "A1", "pA1", "p.A", "p.1", "p.1A", "p.AA1", "p.A1A", "p.AB", "p..A1", "p.A.1", "p.A1.", "p.A1.B2", "p.q.A1",
		"p.A0", "p.A00", "p.A01", "p.A012", "p.A13", "p.A20", "p.A100", "p.A112", "p.A-1", "p.A+1", "p.A1x", "p.Ax", "p.A1_", "p.A0x1",
		"p.I1", "p.J1", "p.Z1", "p.@1", "p.a1", "p.h1", "p.i1", "p. 1", "p.\x001", "p.\x7f1", "p.\x801", "p.\xc11", "p.\xff1", "p.Á1", "p.Ａ1", "p.A１", "p.A１2", "p.A٣",
		"P.A1", "Plate.A1", "pLate.A1", "5.A1", "5p.A1", "p-1.A1", "p_1.A1", "é.A1", "\x00.A1", "\xff.A1", longest + "q.A1", longest + longest + ".A1",
		" p.A1", "p.A1 ", "p .A1", "p. A1", "p.A 1", "p A1", "p.A1\n", "\np.A1", "p.A1\x00", "p.A1\t", "p.A1#", "p:A1", "p,A1",
		"p.A256", "p.A257", "p.A65537", "p.A4294967295", "p.A4294967296", "p.A4294967297", "p.A4294967308", "p.A1000000000000", "p.A1000000000001",
		"p.A9223372036854775807", "p.A9223372036854775808", "p.A9223372036854775809", "p.A18446744073709551616", "p.A18446744073709551617", "p.A18446744073709551628", "p.A36893488147419103233",
		"p.A1" + strings.Repeat("0", 1000), "p.A" + strings.Repeat("0", 1000) + "1", "p.A" + strings.Repeat("1", 100000), strings.Repeat("p", 100000) + ".A1", strings.Repeat(".", 100000), "p." + strings.Repeat("A", 100000) + "1",
	} {
		if w, ok := Parse(s); ok || w != (api.Well{}) {
			t.Errorf("Parse(%.60q): %v, %v", s, w, ok)
		}
	}
}

// P10.1: each row and column that there may be, of several names, there and back, and those around them.
func TestEachWell(t *testing.T) {
	for _, name := range []string{"p", "plate9", longest, "a0"} {
		for row := -3; row < maxRows+3; row++ {
			for col := -3; col < maxCols+3; col++ {
				w, s := wellAt(name, row, col), ""
				if row >= 0 && row < maxRows && col >= 0 && col < maxCols {
					s = name + "." + "ABCDEFGH"[row:row+1] + strconv.Itoa(col+1)
					if got, ok := Parse(s); got != w || !ok {
						t.Errorf("Parse(%q): %v, %v", s, got, ok)
					}
				}
				if got := Text(w); got != s {
					t.Errorf("Text(%v): %q, not %q", w, got, s)
				}
			}
		}
	}
}

// P10.1: each byte in place of each one, and between them.
func TestParseOfEachByte(t *testing.T) {
	for _, s := range []string{"p.B3", "pl8.H12", longest + ".A1", longest[:15] + ".C10"} {
		for at := range len(s) + 1 {
			for b := range 256 {
				c := string([]byte{byte(b)})
				checkParse(t, s[:at]+c+s[at:])
				if at < len(s) {
					checkParse(t, s[:at]+c+s[at+1:])
				}
			}
			checkParse(t, s[:at])
			checkParse(t, s[at:])
		}
	}
}

// P10.1: all texts of a few bytes.
func TestParseOfShortTexts(t *testing.T) {
	told := 0
	var all func(s string, more int)
	all = func(s string, more int) {
		if checkParse(t, s) {
			told++
		}
		if more == 0 {
			return
		}
		for _, c := range []string{"a", "A", "H", "I", ".", "0", "1", "2"} {
			all(s+c, more-1)
		}
	}
	all("", 6)
	// a, then up to two more of a, 0, 1, 2; rows A, H; columns of one digit: 1, 2; of two: 10, 11, 12
	if want := 2*(1+4+16)*2 + 2*(1+4)*3; told != want {
		t.Errorf("%d wells, not %d", told, want)
	}
}

// P10.1: columns of all kinds of numbers.
func TestParseOfColumns(t *testing.T) {
	for n := range 20000 {
		checkParse(t, "p.A"+strconv.Itoa(n))
		checkParse(t, "p.H0"+strconv.Itoa(n))
	}
	for shift := range 64 {
		for n := range uint64(16) {
			checkParse(t, "p.B"+strconv.FormatUint(1<<shift+n, 10))
		}
	}
}

// P10.1: Text of what Parse never tells.
func TestTextOfNone(t *testing.T) {
	for _, w := range []api.Well{
		{}, wellAt("", 1, 2), wellAt("P", 0, 0), wellAt("p.q", 0, 0), wellAt("p.A1", 0, 0), wellAt("5", 0, 0), wellAt("p ", 0, 0), wellAt(".", 0, 0), wellAt(longest+"q", 0, 0), wellAt("é", 0, 0), wellAt("p\n", 0, 0),
		wellAt("p", -1, 0), wellAt("p", 8, 0), wellAt("p", 0, -1), wellAt("p", 0, 12), wellAt("p", 8, 12), wellAt("p", -1, -1), wellAt("p", 26, 0), wellAt("p", 'a'-'A', 0),
		wellAt("p", 1<<32, 0), wellAt("p", 1<<32+1, 1), wellAt("p", 0, 1<<32), wellAt("p", 256, 256), wellAt("p", -256, 0), wellAt("p", 0, -1<<32),
		wellAt("p", math.MinInt, 0), wellAt("p", math.MaxInt, 0), wellAt("p", 0, math.MinInt), wellAt("p", 0, math.MaxInt), wellAt("p", math.MaxInt, math.MinInt),
		wellAt(strings.Repeat("p", 100000), 0, 0),
	} {
		if got := Text(w); got != "" {
			t.Errorf("Text(%.40q, %d, %d): %q", w.Ware, w.Row, w.Col, got)
		}
	}
}

// P10.1: of names, those that lex takes.
func TestNames(t *testing.T) {
	for b := range 256 {
		c := string([]byte{byte(b)})
		for _, name := range []string{c, c + "p", "p" + c, longest[:15] + c, longest + c, c + longest} {
			if _, ok := Parse(name + ".A1"); ok != lex.Name(name) {
				t.Errorf("Parse(%q): %v", name+".A1", ok)
			}
			want := ""
			if lex.Name(name) {
				want = name + ".C12"
			}
			if got := Text(wellAt(name, 2, 11)); got != want {
				t.Errorf("Text of %q: %q", name, got)
			}
		}
	}
}

// P10.1: a well is written as in the lines that tell decks.
func TestWrittenLikeWares(t *testing.T) {
	p := grid("p", maxRows, maxCols)
	const head = "ware p 8 12 0\nbox 100 1 1 1 1\n"
	for row := range maxRows {
		for col := range maxCols {
			w := wellAt("p", row, col)
			d := api.Deck{Wares: []api.Ware{p}, Fills: []api.Fill{{W: w, V: 5}}}
			if got := ware.Print(d); got != head+"fill "+Text(w)+" 5\n" {
				t.Errorf("%v: %q", w, got)
			}
		}
	}
	for _, place := range []string{"A1", "A01", "H12", "H13", "I1", "A0", "a1", "1A", "", "A", "B2.", "B.2", "BB2", "C10", "C100", "@1"} {
		s := "p." + place
		l, _, _ := lex.Lines([]byte(head))
		d, _, _, e := ware.Parse(append(l, []lex.Word{{Text: "fill"}, {Text: s}, {Text: "5"}}))
		w, ok := Parse(s)
		if ok != (e == api.OK) || ok && d.Fills[0].W != w {
			t.Errorf("Parse(%q): %v, %v, ware.Parse: %v, %d", s, w, ok, d.Fills, e)
		}
	}
}

func grid(name string, rows, cols int) api.Ware {
	return api.Ware{Name: name, Rows: rows, Cols: cols, Shape: []api.Section{{H: 100, A0: 1, B0: 1, A1: 1, B1: 1}}}
}

// standing is a deck of these wares, and of a tip and a fill that nothing here should count.
func standing(w ...api.Ware) api.Deck {
	d := api.Deck{Wares: w, Tips: []api.Tip{{Name: "small", Cap: 1, Filter: 1, Outer: []api.Section{{Round: true, H: 100, A1: 1}}}}}
	if len(w) > 0 {
		d.Fills = []api.Fill{{W: wellAt(w[len(w)-1].Name, 0, 0), V: 5}}
	}
	return d
}

// wantAll are the wells in the order of their numbers.
func wantAll(d api.Deck) []api.Well {
	var all []api.Well
	for _, x := range d.Wares {
		for row := range x.Rows {
			for col := range x.Cols {
				all = append(all, wellAt(x.Name, row, col))
			}
		}
	}
	return all
}

// checkDeck holds all numbers of d against the chapter's order.
func checkDeck(t *testing.T, d api.Deck) {
	t.Helper()
	if !ware.Right(d) {
		t.Fatalf("not Right: %v", d)
	}
	all := wantAll(d)
	if got := Count(d); got != len(all) {
		t.Errorf("Count: %d, not %d", got, len(all))
	}
	for i, w := range all {
		if got, ok := Index(d, w); got != i || !ok {
			t.Errorf("Index(%v): %d, %v, not %d", w, got, ok, i)
		}
		if got, ok := At(d, i); got != w || !ok {
			t.Errorf("At(%d): %v, %v, not %v", i, got, ok, w)
		}
	}
	for _, i := range []int{-1, -2, -len(all), -len(all) - 1, len(all), len(all) + 1, 2*len(all) + 1, 1 << 32, -1 << 32, math.MaxInt, math.MaxInt - 1, math.MinInt, math.MinInt + 1} {
		if got, ok := At(d, i); ok || got != (api.Well{}) {
			t.Errorf("At(%d) of %d: %v, %v", i, len(all), got, ok)
		}
	}
	for _, w := range strangers(d) {
		if got, ok := Index(d, w); ok || got != 0 {
			t.Errorf("Index(%v): %d, %v", w, got, ok)
		}
	}
}

// strangers are wells that d hasn't: of names that no ware has, and around each ware.
func strangers(d api.Deck) []api.Well {
	s := []api.Well{{}, wellAt("none", 0, 0), wellAt("small", 0, 0), wellAt("", 0, 1), wellAt("P", 0, 0), wellAt(longest+"q", 0, 0)}
	for _, x := range d.Wares {
		for _, row := range []int{-x.Rows, -1, x.Rows, x.Rows + 1, 1 << 32, math.MinInt, math.MaxInt} {
			for _, col := range []int{-1, 0, x.Cols - 1, x.Cols} {
				s = append(s, wellAt(x.Name, row, col))
			}
		}
		for _, col := range []int{-x.Cols, -1, x.Cols, x.Cols + 1, 1 << 32, math.MinInt, math.MaxInt} {
			for row := -1; row <= x.Rows; row++ {
				s = append(s, wellAt(x.Name, row, col))
			}
		}
		s = append(s, wellAt(strings.ToUpper(x.Name), 0, 0), wellAt(x.Name+".", 0, 0), wellAt(x.Name[1:], 0, 0))
	}
	return s
}

// P10.2
func TestNumbers(t *testing.T) {
	d := api.Deck{Wares: []api.Ware{grid("b", 2, 3), grid("a", 1, 2)}}
	want := []api.Well{wellAt("b", 0, 0), wellAt("b", 0, 1), wellAt("b", 0, 2), wellAt("b", 1, 0), wellAt("b", 1, 1), wellAt("b", 1, 2), wellAt("a", 0, 0), wellAt("a", 0, 1)}
	if got := Count(d); got != len(want) {
		t.Errorf("Count: %d", got)
	}
	for i, w := range want {
		if got, ok := Index(d, w); got != i || !ok {
			t.Errorf("Index(%v): %d, %v", w, got, ok)
		}
		if got, ok := At(d, i); got != w || !ok {
			t.Errorf("At(%d): %v, %v", i, got, ok)
		}
	}
	checkDeck(t, d)
	checkDeck(t, standing(d.Wares...))
}

// P10.2: of no wares, of no deck at all.
func TestNumbersOfNothing(t *testing.T) {
	checkDeck(t, api.Deck{})
	checkDeck(t, standing())
	for _, d := range []api.Deck{{}, {Wares: []api.Ware{}}, standing()} {
		if got, ok := At(d, 0); ok || got != (api.Well{}) || Count(d) != 0 {
			t.Errorf("At(0): %v, %v; Count: %d", got, ok, Count(d))
		}
	}
}

// P10.2: each size of a ware, by itself and among others.
func TestNumbersOfEachSize(t *testing.T) {
	for rows := 1; rows <= maxRows; rows++ {
		for cols := 1; cols <= maxCols; cols++ {
			checkDeck(t, standing(grid("p", rows, cols)))
			checkDeck(t, standing(grid("a", 1, 1), grid("p", rows, cols), grid("b", cols%maxRows+1, rows)))
		}
	}
}

// P10.2: as many wells as a deck may have.
func TestNumbersOfTheGreatest(t *testing.T) {
	var w []api.Ware
	for i := range 8 {
		w = append(w, grid(longest[:15]+strconv.Itoa(i), maxRows, maxCols))
	}
	d := standing(w...)
	checkDeck(t, d)
	if got := Count(d); got != 768 {
		t.Errorf("Count: %d", got)
	}
	if got, ok := At(d, 767); got != wellAt("abcdefghijklmno7", 7, 11) || !ok {
		t.Errorf("At(767): %v, %v", got, ok)
	}
}

// P10.2: decks of any sizes.
func TestNumbersOfMany(t *testing.T) {
	r := rand.New(rand.NewSource(1))
	names := []string{"p", "q", "plate", "p1", longest, "ware", "t", "z9"}
	for range 300 {
		r.Shuffle(len(names), func(i, k int) { names[i], names[k] = names[k], names[i] })
		var w []api.Ware
		for i := range r.Intn(9) {
			w = append(w, grid(names[i], 1+r.Intn(maxRows), 1+r.Intn(maxCols)))
		}
		checkDeck(t, standing(w...))
	}
}

// P10.3: one number a well, one well a number, none left out, and its text tells it again.
func TestEachWellHasOneNumber(t *testing.T) {
	d := standing(grid("p", 3, 5), grid("q", 1, 1), grid("r", 8, 12), grid("s", 4, 1), grid("u", 1, 7))
	met := map[string]int{}
	for i := range Count(d) {
		w, ok := At(d, i)
		if !ok {
			t.Fatalf("At(%d): none", i)
		}
		s := Text(w)
		if at, again := met[s]; again || s == "" {
			t.Errorf("At(%d) and At(%d): both %q", at, i, s)
		}
		met[s] = i
		told, ok := Parse(s)
		if n, there := Index(d, told); !ok || !there || n != i {
			t.Errorf("%q: %d, %v, not %d", s, n, there, i)
		}
	}
	if len(met) != 3*5+1+8*12+4+7 {
		t.Errorf("%d wells", len(met))
	}
}

// P10.2: of decks that ware.Right refuses each call ends, too.
func TestWrongDecksEnd(t *testing.T) {
	odd := []int{0, 1, -1, 2, 9, 13, -7, 1 << 31, 1 << 32, -1 << 32, math.MaxInt, math.MinInt, math.MaxInt / 2, math.MinInt / 2}
	r := rand.New(rand.NewSource(2))
	for range 100000 {
		var d api.Deck
		for range 1 + r.Intn(4) {
			d.Wares = append(d.Wares, grid([]string{"p", "q", "", "P"}[r.Intn(4)], odd[r.Intn(len(odd))], odd[r.Intn(len(odd))]))
		}
		Count(d)
		At(d, odd[r.Intn(len(odd))])
		At(d, r.Intn(5))
		Index(d, wellAt("p", odd[r.Intn(len(odd))], odd[r.Intn(len(odd))]))
		Index(d, wellAt("", r.Intn(3), r.Intn(3)))
	}
	for _, rows := range odd {
		for _, cols := range odd {
			for _, i := range odd {
				for _, next := range []api.Ware{grid("q", 0, 0), grid("q", 1, 0), grid("q", 0, 1), grid("q", -1, -1)} {
					At(api.Deck{Wares: []api.Ware{grid("p", rows, cols), next}}, i)
				}
			}
		}
	}
}

// What is handed in stays as it is, many at once asking.
func TestManyAtOnce(t *testing.T) {
	plain := func() api.Deck { return standing(grid("p", 3, 5), grid("q", 8, 12)) }
	d := plain()
	var all sync.WaitGroup
	for range 8 {
		all.Go(func() {
			for i, w := range wantAll(d) {
				got, ok := At(d, i)
				n, there := Index(d, w)
				told, written := Parse(Text(w))
				if got != w || !ok || n != i || !there || told != w || !written || Count(d) != 111 {
					t.Errorf("%d: %v, %v, %d, %v, %v, %v", i, got, ok, n, there, told, written)
				}
			}
		})
	}
	all.Wait()
	if !reflect.DeepEqual(d, plain()) {
		t.Errorf("the deck has changed: %v", d)
	}
}
