package ware

import (
	"math"
	"math/rand"
	"reflect"
	"regexp"
	"slices"
	"strconv"
	"strings"
	"sync"
	"testing"

	"dipper/api"
	"dipper/lex"
)

const lowest, highest = math.MinInt64, math.MaxInt64

func words(w ...lex.Word) []lex.Word { return w }

func round(h, a0, a1 int64) api.Section { return api.Section{Round: true, H: h, A0: a0, A1: a1} }

func box(h, a0, b0, a1, b1 int64) api.Section {
	return api.Section{H: h, A0: a0, B0: b0, A1: a1, B1: b1}
}

func list(s ...api.Section) []api.Section { return s }

// linesOf are the lines of a text that lex takes.
func linesOf(t *testing.T, s string) [][]lex.Word {
	t.Helper()
	l, _, e := lex.Lines([]byte(s))
	if e != api.OK {
		t.Fatalf("lex.Lines(%q): %d", s, e)
	}
	return l
}

// linesSame takes nil and nothing as the same.
func linesSame(a, b [][]lex.Word) bool { return slices.EqualFunc(a, b, slices.Equal[[]lex.Word]) }

func waresSame(a, b api.Ware) bool {
	return a.Name == b.Name && a.Rows == b.Rows && a.Cols == b.Cols && a.Tol == b.Tol && slices.Equal(a.Shape, b.Shape)
}

func tipsSame(a, b api.Tip) bool {
	return a.Name == b.Name && a.Cap == b.Cap && a.Filter == b.Filter && a.Err == b.Err && slices.Equal(a.Outer, b.Outer)
}

func same(a, b api.Deck) bool {
	return slices.EqualFunc(a.Wares, b.Wares, waresSame) && slices.EqualFunc(a.Tips, b.Tips, tipsSame) && slices.Equal(a.Fills, b.Fills)
}

// copied is a deck that shares nothing with d.
func copied(d api.Deck) api.Deck {
	c := api.Deck{Wares: slices.Clone(d.Wares), Tips: slices.Clone(d.Tips), Fills: slices.Clone(d.Fills)}
	for i := range c.Wares {
		c.Wares[i].Shape = slices.Clone(c.Wares[i].Shape)
	}
	for i := range c.Tips {
		c.Tips[i].Outer = slices.Clone(c.Tips[i].Outer)
	}
	return c
}

// plain is a deck of two wares and two tips that is Right, new each time.
func plain() api.Deck {
	return api.Deck{
		Wares: []api.Ware{
			{Name: "plate", Rows: 2, Cols: 3, Tol: 100, Shape: list(box(10000, 8000, 7000, 8100, 7200))},
			{Name: "trough", Rows: 1, Cols: 1, Shape: list(round(2000, 0, 4000), box(20000, 0, 9000, 9500, 9000))},
		},
		Tips: []api.Tip{
			{Name: "small", Cap: 100000, Filter: 20000, Err: 10, Outer: list(round(30000, 400, 1000), round(20000, 1000, 1200))},
			{Name: "plate", Cap: 1, Filter: 1, Outer: list(box(100, 0, 0, 1, 1))},
		},
		Fills: []api.Fill{{W: api.Well{Ware: "plate"}, V: 300000}, {W: api.Well{Ware: "trough"}, V: 0}, {W: api.Well{Ware: "plate", Row: 1, Col: 2}, V: 5}},
	}
}

const plainText = `ware plate 2 3 100
box 10000 8000 7000 8100 7200
ware trough 1 1 0
round 2000 0 4000
box 20000 0 9000 9500 9000
tip small 100000 20000 10
round 30000 400 1000
round 20000 1000 1200
tip plate 1 1 0
box 100 0 0 1 1
fill plate.A1 300000
fill trough.A1 0
fill plate.B3 5
`

// refuses holds that Parse of s, without its @, ends with that error at the offset where @ stands, all else being zero.
func refuses(t *testing.T, s string, e api.Errno) {
	t.Helper()
	ahead, behind, _ := strings.Cut(s, "@")
	at := len(ahead)
	s = ahead + behind
	d, rest, gotAt, gotE := Parse(linesOf(t, s))
	if gotAt != at || gotE != e || !reflect.DeepEqual(d, api.Deck{}) || len(rest) != 0 {
		t.Errorf("Parse(%q): %v, %v, %d, %d, not %d, %d", s, d, rest, gotAt, gotE, at, e)
	}
}

func takes(t *testing.T, s string, want api.Deck) {
	t.Helper()
	d, rest, at, e := Parse(linesOf(t, s))
	if !same(d, want) || len(rest) != 0 || at != 0 || e != api.OK {
		t.Errorf("Parse(%q): %v, %v, %d, %d, not %v", s, d, rest, at, e, want)
	}
}

// P9.1
func TestParse(t *testing.T) {
	takes(t, plainText, plain())
	takes(t, "", api.Deck{})
	takes(t, "# nothing\n\n", api.Deck{})
	one := api.Deck{Wares: []api.Ware{{Name: "p", Rows: 1, Cols: 1, Shape: list(round(100, 0, 1))}}}
	takes(t, "ware p 1 1 0\nround 100 0 1", one)
	takes(t, "\tware  p 1\t1 0 # ware q 1 1 0\n\n# a\n  round 100 0 1\n\n", one)
	takes(t, "tip t 7 8 9\nbox 200 1 2 3 4\n", api.Deck{Tips: []api.Tip{{Name: "t", Cap: 7, Filter: 8, Err: 9, Outer: list(box(200, 1, 2, 3, 4))}}})
}

// P9.1: wares, tips and fills in any order, as long as a fill's ware stands ahead of it.
func TestParseInAnyOrder(t *testing.T) {
	takes(t, "tip a 1 2 3\nround 100 0 1\nware a 1 2 0\nround 200 0 1\nfill a.A2 6\ntip b 4 5 6\nround 300 0 1\nfill a.A1 7\nware b 2 1 1\nbox 400 0 0 1 1\nround 500 3 4\nfill b.B1 8\n", api.Deck{
		Wares: []api.Ware{{Name: "a", Rows: 1, Cols: 2, Shape: list(round(200, 0, 1))}, {Name: "b", Rows: 2, Cols: 1, Tol: 1, Shape: list(box(400, 0, 0, 1, 1), round(500, 3, 4))}},
		Tips:  []api.Tip{{Name: "a", Cap: 1, Filter: 2, Err: 3, Outer: list(round(100, 0, 1))}, {Name: "b", Cap: 4, Filter: 5, Err: 6, Outer: list(round(300, 0, 1))}},
		Fills: []api.Fill{{W: api.Well{Ware: "a", Col: 1}, V: 6}, {W: api.Well{Ware: "a"}, V: 7}, {W: api.Well{Ware: "b", Row: 1}, V: 8}},
	})
}

// P9.1: words that begin no line are names as others are.
func TestParseNamesLikeWords(t *testing.T) {
	takes(t, "ware ware 1 1 0\nround 100 0 1\nware box 1 1 0\nround 100 0 1\ntip tip 1 1 0\nround 100 0 1\nfill ware.A1 1\nfill box.A1 2\n", api.Deck{
		Wares: []api.Ware{{Name: "ware", Rows: 1, Cols: 1, Shape: list(round(100, 0, 1))}, {Name: "box", Rows: 1, Cols: 1, Shape: list(round(100, 0, 1))}},
		Tips:  []api.Tip{{Name: "tip", Cap: 1, Filter: 1, Outer: list(round(100, 0, 1))}},
		Fills: []api.Fill{{W: api.Well{Ware: "ware"}, V: 1}, {W: api.Well{Ware: "box"}, V: 2}},
	})
}

// P9.1: the lines from the first one on that begins with another word, whatever they and those behind them say.
func TestParseRest(t *testing.T) {
	for _, rest := range []string{
		"use small\ntransfer plate.A1 plate.A2 50\n",
		"fills plate.A2 5\n",
		"Ware\n",
		"waref p 1 1 0\n",
		"war p 1 1 0\n",
		"boxes\nbox 100 1 1 1 1\nware p 1 1 0\n",
		"5\n",
		"ware.a\n",
		".\n",
		"use t\nware\nware plate 0 0 0\ntip\nfill x y\nround\nbox\nfill plate.A1 1\n",
	} {
		for _, ahead := range []string{"", plainText} {
			l := linesOf(t, ahead+rest)
			d, got, at, e := Parse(l)
			want := api.Deck{}
			if ahead != "" {
				want = plain()
			}
			if !same(d, want) || at != 0 || e != api.OK || !linesSame(got, l[strings.Count(ahead, "\n"):]) {
				t.Errorf("Parse(%q): %v, %v, %d, %d", ahead+rest, d, got, at, e)
			}
		}
	}
}

// P9.1: a line of no words counts as none, ahead of what it may stand.
func TestParseLinesWithoutWords(t *testing.T) {
	l := linesOf(t, plainText+"use small\nuse plate\n")
	full, rest, _, _ := Parse(l)
	for _, none := range [][]lex.Word{nil, {}, l[0][:0]} {
		var gaps [][]lex.Word
		for _, line := range l {
			gaps = append(gaps, none, none, line)
		}
		gaps = append(gaps, none)
		d, got, at, e := Parse(gaps)
		if !same(d, full) || !linesSame(got, rest) || at != 0 || e != api.OK {
			t.Errorf("with gaps: %v, %v, %d, %d", d, got, at, e)
		}
		if d, got, at, e := Parse([][]lex.Word{none, none}); !same(d, api.Deck{}) || len(got) != 0 || at != 0 || e != api.OK {
			t.Errorf("gaps alone: %v, %v, %d, %d", d, got, at, e)
		}
	}
	for _, none := range [][][]lex.Word{nil, {}} {
		if d, got, at, e := Parse(none); !same(d, api.Deck{}) || len(got) != 0 || at != 0 || e != api.OK {
			t.Errorf("nothing: %v, %v, %d, %d", d, got, at, e)
		}
	}
}

// P9.1: ErrWord of each kind of line, of each number of words that isn't its own, whatever they are.
func TestParseTooFewOrManyWords(t *testing.T) {
	const ahead = "ware p 8 12 0\nround 100 0 1\n"
	for _, line := range []string{"ware q 1 1 0", "tip t 1 1 0", "fill p.A1 5", "round 100 0 1", "box 100 1 1 1 1"} {
		own := strings.Fields(line)
		for n := 1; n < 20; n++ {
			for _, more := range []string{"1", "x", "P", "."} {
				w := slices.Clone(own)
				for len(w) < n {
					w = append(w, more)
				}
				s := ahead + " " + strings.Join(w[:n], " ") + "\n"
				if n == len(own) {
					if _, _, _, e := Parse(linesOf(t, s)); e == api.ErrWord {
						t.Errorf("Parse(%q): ErrWord", s)
					}
					continue
				}
				if _, _, at, e := Parse(linesOf(t, s)); at != len(ahead)+1 || e != api.ErrWord {
					t.Errorf("Parse(%q): %d, %d", s, at, e)
				}
			}
		}
	}
}

// P9.1: ErrWord of a section that stands behind no ware, tip or section.
func TestParseSectionsOfNothing(t *testing.T) {
	const p = "ware p 1 2 0\nround 100 0 1\n"
	for _, section := range []string{"round 300 5 5", "box 300 5 5 5 5", "round 300 5 x", "box 300 5 5 5 0", "round", "box 300 5 5 5 5 5"} {
		refuses(t, "@"+section, api.ErrWord)
		refuses(t, "# a\n@"+section+"\nbox 100 1 1 1 1\n", api.ErrWord)
		refuses(t, p+"fill p.A1 5\n@"+section, api.ErrWord)
		refuses(t, p+"tip t 1 1 0\nround 100 0 1\nfill p.A1 5\nfill p.A2 5\n  @"+section+"\n", api.ErrWord)
	}
}

// P9.1: each number at its bounds and one past them, and words that are no number.
func TestParseNumbers(t *testing.T) {
	for _, x := range []struct {
		ahead, behind string
		least, most   int64
	}{
		{"ware p ", " 12 5\nround 100 0 1\n", 1, 8},
		{"ware p 8 ", " 5\nround 100 0 1\n", 1, 12},
		{"ware p 8 12 ", "\nround 100 0 1\n", 0, 1000000},
		{"tip t ", " 5 5\nround 100 0 1\n", 1, 20000000},
		{"tip t 5 ", " 5\nround 100 0 1\n", 1, 60000},
		{"tip t 5 5 ", "\nround 100 0 1\n", 0, 10000},
		{"ware p 2 2 0\nround 100 0 1\nfill p.A1 ", "\n", 0, 20000000},
		{"ware p 2 2 0\nround 100 0 1\nfill p.A2 0\nfill p.A1 ", "\nfill p.B2 5\n", 0, 20000000},
	} {
		for _, v := range []int64{x.least, x.least + 1, x.most - 1, x.most} {
			s := x.ahead + strconv.FormatInt(v, 10) + x.behind
			if _, _, at, e := Parse(linesOf(t, s)); at != 0 || e != api.OK {
				t.Errorf("Parse(%q): %d, %d", s, at, e)
			}
		}
		wrong := []string{"x", "00", "05", "1.0", ".", "5x", "P", "p.A1", "1000000000000", "1000000000001", "18446744073709551617", "4294967297", "1" + strings.Repeat("0", 100)}
		wrong = append(wrong, strconv.FormatInt(x.most+1, 10), strconv.FormatInt(10*x.most, 10))
		if x.least > 0 {
			wrong = append(wrong, "0")
		}
		for _, w := range wrong {
			s := x.ahead + w + x.behind
			if _, _, at, e := Parse(linesOf(t, s)); at != len(x.ahead) || e != api.ErrRange {
				t.Errorf("Parse(%q): %d, %d", s, at, e)
			}
		}
	}
}

// P9.1: of sections each word that is no number is ErrRange; what no shape has is ErrShape.
func TestParseSectionNumbers(t *testing.T) {
	for _, head := range []string{"ware p 1 1 0\n", "tip t 1 1 0\n"} {
		for _, kind := range []string{"round 100 1 1", "box 100 1 1 1 1"} {
			w := strings.Fields(kind)
			for i := 1; i < len(w); i++ {
				for _, bad := range []string{"x", "01", "1.", "1000000000001", "9223372036854775808", "m1"} {
					line := slices.Clone(w)
					line[i] = bad
					at := len(head) + len(strings.Join(line[:i], " ")) + 1
					if _, _, gotAt, e := Parse(linesOf(t, head+strings.Join(line, " ")+"\nbox 5\n")); gotAt != at || e != api.ErrRange {
						t.Errorf("Parse(%q): %d, %d, not %d", head+strings.Join(line, " "), gotAt, e, at)
					}
				}
				for _, odd := range []string{"20001", "1000000000000"} {
					line := slices.Clone(w)
					line[i] = odd
					if _, _, at, e := Parse(linesOf(t, head+strings.Join(line, " "))); at != 0 || e != api.ErrShape {
						t.Errorf("Parse(%q): %d, %d", head+strings.Join(line, " "), at, e)
					}
				}
			}
		}
	}
}

// P9.1: ErrName.
func TestParseNames(t *testing.T) {
	const p, q = "ware p 1 1 0\nround 100 0 1\n", "tip q 1 1 0\nround 100 0 1\n"
	for _, bad := range []string{"P", "pQ", "5", "5p", "p.q", ".", "p.A1", "abcdefghijklmnopq"} {
		refuses(t, p+q+"ware  @"+bad+" 1 1 0\nround 100 0 1\n", api.ErrName)
		refuses(t, p+q+"tip  @"+bad+" 1 1 0\nround 100 0 1\n", api.ErrName)
	}
	for _, good := range []string{"r", "abcdefghijklmnop", "p5", "tip"} {
		takesAll(t, p+q+"ware "+good+" 1 1 0\nround 100 0 1\n"+"tip "+good+" 1 1 0\nround 100 0 1\n")
	}
	refuses(t, p+q+"ware @p 2 2 0\n", api.ErrName)
	refuses(t, p+q+"tip @q 2 2 0\n", api.ErrName)
	// wares and tips are apart
	takesAll(t, p+q+"tip p 2 2 0\nround 100 0 1\nware q 2 2 0\nround 100 0 1\n")
	refuses(t, p+q+"tip p 2 2 0\nround 100 0 1\nware q 2 2 0\nround 100 0 1\nware @q 3 3 0\n", api.ErrName)
	refuses(t, p+q+"tip p 2 2 0\nround 100 0 1\nware q 2 2 0\nround 100 0 1\ntip @p 3 3 0\n", api.ErrName)
}

func takesAll(t *testing.T, s string) {
	t.Helper()
	if _, rest, at, e := Parse(linesOf(t, s)); len(rest) != 0 || at != 0 || e != api.OK {
		t.Errorf("Parse(%q): %d, %d", s, at, e)
	}
}

// many are n lines of that word, each with a name of its own and a section.
func many(word string, n int) string {
	var b strings.Builder
	for i := range n {
		b.WriteString(word + " n" + strconv.Itoa(i) + " 1 1 0\nround 100 0 1\n")
	}
	return b.String()
}

// P9.1: ErrMany.
func TestParseTooMany(t *testing.T) {
	full := many("ware", 8) + many("tip", 4)
	takesAll(t, full)
	takesAll(t, full+"fill n0.A1 1\nfill n7.A1 1\n")
	for _, s := range []string{"  @ware m 1 1 0", " @ware N x x x\n", "\t@tip m 1 1 0\n", " @tip N 0 0 x\n", "#\n@ware n0 0 0 0\n"} {
		refuses(t, full+s, api.ErrMany)
	}
	refuses(t, many("ware", 8)+"@"+many("ware", 1), api.ErrMany)
	refuses(t, many("ware", 8)+"@"+many("ware", 20), api.ErrMany)
	refuses(t, many("tip", 4)+"@"+many("tip", 1), api.ErrMany)
	takesAll(t, many("tip", 4)+many("ware", 8))
	takesAll(t, many("ware", 7)+many("tip", 4)+"ware m 1 1 0\nround 100 0 1\n")
	takesAll(t, many("ware", 8)+many("tip", 3)+"tip m 1 1 0\nround 100 0 1\n")
}

// P9.1: ErrShape, at the line of its own ware or tip.
func TestParseShapes(t *testing.T) {
	for _, head := range []string{"ware p 1 1 0\n", "tip p 1 1 0\n"} {
		for _, good := range []string{
			"round 100 0 1\n", "box 60000 20000 20000 20000 20000\n", "round 100 0 1\nbox 100 0 0 1 1\nround 59700 20000 20000\nround 100 1 1\n",
		} {
			takesAll(t, head+good)
		}
		for _, bad := range []string{
			"", "round 0 0 1\n", "round 50 0 1\n", "round 150 0 1\n", "round 60100 0 1\n", "round 100 0 0\n", "round 100 20001 1\n", "round 100 1 20001\n",
			"box 100 1 1 0 1\n", "box 100 1 1 1 0\n", "box 100 1 20001 1 1\n", "box 100 1 1 1 20001\n", "round 60000 0 1\nround 100 0 1\n",
			strings.Repeat("round 100 0 1\n", 5), strings.Repeat("round 100 0 1\n", 500), "round 50 0 1\nround 50 0 1\n", "round 100 0 1\nbox 1000000000000 0 0 1 1\n",
		} {
			for _, ahead := range []string{"", many("ware", 1), many("ware", 1) + many("tip", 1), many("ware", 1) + "fill n0.A1 5\n", "# a\n   "} {
				for _, behind := range []string{"", "use p\n", "ware\n", "ware q x x x\n", "ware p 1 1 0\n", "tip 5 5 5 5\n", "tip p 1 1 0\n", "fill\n", "fill n0.A1 x\n", "fill p.A1 5\n", "5\n"} {
					refuses(t, ahead+"@"+head+bad+behind, api.ErrShape)
				}
			}
		}
	}
	// the sections' own lines come ahead
	refuses(t, "ware p 1 1 0\nround 50 0 1\nround 100 0 @x\n", api.ErrRange)
	refuses(t, "ware p 1 1 0\nround 50 0 1\n@box 100 0 1\n", api.ErrWord)
	refuses(t, "tip p 1 1 0\nround 50 0 1\nround 100 0 @x\n", api.ErrRange)
	// and no more than its own
	refuses(t, "ware p 1 1 0\nround 100 0 1\n@ware q 1 1 0\nware r 1 1 0\nround 100 0 1\n", api.ErrShape)
	refuses(t, "@ware p 1 1 0\ntip t 1 1 0\nround 100 0 1\n", api.ErrShape)
	refuses(t, "@tip t 1 1 0\nfill p.A1 5\nround 100 0 1\n", api.ErrShape)
}

// P9.1: ErrWell.
func TestParseWells(t *testing.T) {
	const p = "ware p 2 12 0\nround 100 0 1\nware q 8 1 0\nround 100 0 1\ntip t 1 1 0\nround 100 0 1\n"
	for _, bad := range []string{
		"p.C1", "p.A13", "p.A0", "p.A01", "p.A", "p.A1.", "p.A1.A1", "p.1", "p.1A", "p.AA1", "p.a1", "p", "p.", ".", "..", ".A1", "A1", "pA1", "5", "p.A1x",
		"p.A18446744073709551617", "p.A4294967297", "q.I1", "q.A2", "q.Z1", "r.A1", "t.A1", "P.A1", "p..A1", "pp.A1", "p.A1000000000000", "q.H2",
	} {
		refuses(t, p+"fill  @"+bad+" 7\n", api.ErrWell)
		refuses(t, p+"fill  @"+bad+" x\n", api.ErrWell)
	}
	// each well of a ware, once
	all := p
	for _, w := range []string{"p.A", "p.B"} {
		for col := 1; col <= 12; col++ {
			all += "fill " + w + strconv.Itoa(col) + " 5\n"
		}
	}
	for row := range 8 {
		all += "fill q." + "ABCDEFGH"[row:row+1] + "1 5\n"
	}
	takesAll(t, all)
	for _, again := range []string{"p.A1", "p.B12", "p.A12", "q.A1", "q.H1"} {
		refuses(t, all+"fill @"+again+" 6\n", api.ErrWell)
		refuses(t, all+"fill @"+again+" x\n", api.ErrWell)
	}
	// its ware has to stand ahead
	refuses(t, "fill @p.A1 5\n"+p, api.ErrWell)
	refuses(t, p+"fill @r.A1 5\nware r 1 1 0\nround 100 0 1\n", api.ErrWell)
	takesAll(t, p+"fill p.A1 0\nware r 1 1 0\nround 100 0 1\nfill r.A1 5\nfill p.A2 0\n")
}

// P9.1: of several errors that of the first line; of one line ErrWord, ErrMany, then word by word.
func TestParseFirstError(t *testing.T) {
	const p = "ware p 1 1 0\nround 100 0 1\n"
	refuses(t, p+"ware @X 0 0 x\n", api.ErrName)
	refuses(t, p+"tip @X 0 0 x\n", api.ErrName)
	refuses(t, p+"fill @X x\n", api.ErrWell)
	refuses(t, "ware p @0 0 x\n", api.ErrRange)
	refuses(t, "ware p 1 @77 x\n", api.ErrRange)
	refuses(t, "tip p @0 0 x\n", api.ErrRange)
	refuses(t, "tip p 1 @99999 x\n", api.ErrRange)
	refuses(t, "ware p 1 1 0\nbox 1 @x y z 0\n", api.ErrRange)
	refuses(t, "ware p 1 1 0\nbox 1 1 @y z 0\n", api.ErrRange)
	refuses(t, "ware p 1 1 0\nbox 1 1 1 @z x\n", api.ErrRange)
	refuses(t, "ware p 1 1 @x\nround 50 0 0\n", api.ErrRange)
	refuses(t, p+"fill p.A1 @x\nware\n", api.ErrRange)
	refuses(t, p+"ware @p 1 1 0\nfill\n", api.ErrName)
	refuses(t, p+"fill @p.A2 1\nfill p.A1 x\n", api.ErrWell)
	refuses(t, many("ware", 8)+"@ware X x x\n", api.ErrWord)
	refuses(t, many("tip", 4)+"@tip X x x x x\n", api.ErrWord)
	refuses(t, many("ware", 7)+"@ware m 1 1 0\nware X x x x\n", api.ErrShape)
	refuses(t, many("tip", 3)+"@tip m 1 1 0\ntip X x x x\n", api.ErrShape)
}

// wordKind is what a word behind a line's first may be.
type wordKind struct {
	kind        string
	least, most int64
}

// kindsOf is chapter 9's list of lines; nil of other words.
func kindsOf(first string) []wordKind {
	size := wordKind{"number", 0, 1000000000000}
	switch first {
	case "ware":
		return []wordKind{{kind: "name"}, {"number", 1, 8}, {"number", 1, 12}, {"number", 0, 1000000}}
	case "tip":
		return []wordKind{{kind: "name"}, {"number", 1, 20000000}, {"number", 1, 60000}, {"number", 0, 10000}}
	case "fill":
		return []wordKind{{kind: "well"}, {"number", 0, 20000000}}
	case "round":
		return []wordKind{size, size, size}
	case "box":
		return []wordKind{size, size, size, size, size}
	}
	return nil
}

var (
	nameForm   = regexp.MustCompile(`^[a-z][a-z0-9]{0,15}$`)
	numberForm = regexp.MustCompile(`^(0|[1-9][0-9]{0,11}|1000000000000)$`)
	wellForm   = regexp.MustCompile(`^([a-z][a-z0-9]{0,15})\.([A-H])([1-9]|1[0-2])$`)
)

// wantLine is the error of line i by itself, all ahead of it being right.
func wantLine(l [][]lex.Word, i int) (int, api.Errno) {
	first, kinds := l[i][0], kindsOf(l[i][0].Text)
	isSection := first.Text == "round" || first.Text == "box"
	if len(l[i]) != 1+len(kinds) || isSection && (i == 0 || l[i-1][0].Text == "fill") {
		return first.At, api.ErrWord
	}
	stand := 0
	for _, line := range l[:i] {
		if line[0].Text == first.Text {
			stand++
		}
	}
	if first.Text == "ware" && stand >= 8 || first.Text == "tip" && stand >= 4 {
		return first.At, api.ErrMany
	}
	for k, kind := range kinds {
		if e := wantWord(l[:i], first.Text, l[i][1+k].Text, kind); e != api.OK {
			return l[i][1+k].At, e
		}
	}
	return 0, api.OK
}

// wantWord is the error of a word of a line that begins with first, behind those lines.
func wantWord(ahead [][]lex.Word, first, text string, kind wordKind) api.Errno {
	switch kind.kind {
	case "number":
		v, _ := strconv.ParseInt(text, 10, 64)
		if !numberForm.MatchString(text) || v < kind.least || v > kind.most {
			return api.ErrRange
		}
	case "name":
		taken := slices.ContainsFunc(ahead, func(w []lex.Word) bool { return w[0].Text == first && w[1].Text == text })
		if taken || !nameForm.MatchString(text) {
			return api.ErrName
		}
	case "well":
		m := wellForm.FindStringSubmatch(text)
		there := m != nil && slices.ContainsFunc(ahead, func(w []lex.Word) bool {
			if w[0].Text != "ware" || w[1].Text != m[1] {
				return false
			}
			rows, _ := strconv.Atoi(w[2].Text)
			cols, _ := strconv.Atoi(w[3].Text)
			col, _ := strconv.Atoi(m[3])
			return int(m[2][0]-'A'+1) <= rows && col <= cols
		})
		if !there || slices.ContainsFunc(ahead, func(w []lex.Word) bool { return w[0].Text == "fill" && w[1].Text == text }) {
			return api.ErrWell
		}
	}
	return api.OK
}

// wantShape is whether the lines from one to ahead of end are sections of a shape.
func wantShape(l [][]lex.Word) bool {
	height := int64(0)
	for _, w := range l {
		n := numbersOf(w[1:])
		height += n[0]
		tops := n[2:]
		if len(n) == 5 {
			tops = n[3:]
		}
		if n[0] < 1 || n[0]%100 != 0 || slices.Min(tops) < 1 || slices.Max(n[1:]) > 20000 {
			return false
		}
	}
	return len(l) >= 1 && len(l) <= 4 && height <= 60000
}

func numbersOf(w []lex.Word) []int64 {
	var n []int64
	for _, x := range w {
		v, _ := strconv.ParseInt(x.Text, 10, 64)
		n = append(n, v)
	}
	return n
}

// wantParse is chapter 9 in other words: each line is looked at by what stands ahead of it alone.
func wantParse(l [][]lex.Word) (api.Deck, [][]lex.Word, int, api.Errno) {
	l = slices.DeleteFunc(slices.Clone(l), func(w []lex.Word) bool { return len(w) == 0 })
	end := slices.IndexFunc(l, func(w []lex.Word) bool { return kindsOf(w[0].Text) == nil })
	if end < 0 {
		end = len(l)
	}
	var d api.Deck
	said := l[:end]
	head := -1
	for i := 0; i <= len(said); i++ {
		isSection := i < len(said) && (said[i][0].Text == "round" || said[i][0].Text == "box")
		if head >= 0 && !isSection {
			if !wantShape(said[head+1 : i]) {
				return api.Deck{}, nil, said[head][0].At, api.ErrShape
			}
			head = -1
		}
		if i == len(said) {
			break
		}
		if at, e := wantLine(said, i); e != api.OK {
			return api.Deck{}, nil, at, e
		}
		if said[i][0].Text == "ware" || said[i][0].Text == "tip" {
			head = i
		}
		wantTold(&d, said[:i], said[i])
	}
	return d, l[end:], 0, api.OK
}

// wantTold adds what a right line tells.
func wantTold(d *api.Deck, ahead [][]lex.Word, w []lex.Word) {
	n := numbersOf(w[1:])
	switch w[0].Text {
	case "ware":
		d.Wares = append(d.Wares, api.Ware{Name: w[1].Text, Rows: int(n[1]), Cols: int(n[2]), Tol: n[3]})
	case "tip":
		d.Tips = append(d.Tips, api.Tip{Name: w[1].Text, Cap: n[1], Filter: n[2], Err: n[3]})
	case "fill":
		m := wellForm.FindStringSubmatch(w[1].Text)
		col, _ := strconv.Atoi(m[3])
		d.Fills = append(d.Fills, api.Fill{W: api.Well{Ware: m[1], Row: strings.Index("ABCDEFGH", m[2]), Col: col - 1}, V: n[1]})
	default:
		x := round(n[0], n[1], n[2])
		if len(n) == 5 {
			x = box(n[0], n[1], n[2], n[3], n[4])
		}
		i := len(ahead) - 1
		for ahead[i][0].Text != "ware" && ahead[i][0].Text != "tip" {
			i--
		}
		if ahead[i][0].Text == "ware" {
			last := &d.Wares[len(d.Wares)-1]
			last.Shape = append(last.Shape, x)
		} else {
			last := &d.Tips[len(d.Tips)-1]
			last.Outer = append(last.Outer, x)
		}
	}
}

func pick[T any](r *rand.Rand, of ...T) T { return of[r.Intn(len(of))] }

// pickNumber is one of the bounds, or anything between them.
func pickNumber(r *rand.Rand, least, most int64) int64 {
	return pick(r, least, most, least+r.Int63n(most-least+1), min(most, least+1+r.Int63n(3)))
}

func pickShape(r *rand.Rand) []api.Section {
	var s []api.Section
	for range 1 + r.Intn(4) {
		x := box(100*pickNumber(r, 1, 150), pickNumber(r, 0, 20000), pickNumber(r, 0, 20000), pickNumber(r, 1, 20000), pickNumber(r, 1, 20000))
		if r.Intn(2) == 0 {
			x = round(x.H, x.A0, x.A1)
		}
		s = append(s, x)
	}
	return s
}

// pickDeck is one that is Right; its names are few, so that wares and tips share some.
func pickDeck(r *rand.Rand) api.Deck {
	var d api.Deck
	all := []string{"p", "q", "r", "plate", "abcdefghijklmnop", "p1", "ware", "t", "box", "z9"}
	r.Shuffle(len(all), func(i, k int) { all[i], all[k] = all[k], all[i] })
	for i := range r.Intn(9) {
		d.Wares = append(d.Wares, api.Ware{Name: all[i], Rows: int(pickNumber(r, 1, 8)), Cols: int(pickNumber(r, 1, 12)), Tol: pickNumber(r, 0, 1000000), Shape: pickShape(r)})
	}
	r.Shuffle(len(all), func(i, k int) { all[i], all[k] = all[k], all[i] })
	for i := range r.Intn(5) {
		d.Tips = append(d.Tips, api.Tip{Name: all[i], Cap: pickNumber(r, 1, 20000000), Filter: pickNumber(r, 1, 60000), Err: pickNumber(r, 0, 10000), Outer: pickShape(r)})
	}
	for range r.Intn(20) {
		if len(d.Wares) == 0 {
			break
		}
		w := pick(r, d.Wares...)
		x := api.Well{Ware: w.Name, Row: r.Intn(w.Rows), Col: r.Intn(w.Cols)}
		if !slices.ContainsFunc(d.Fills, func(f api.Fill) bool { return f.W == x }) {
			d.Fills = append(d.Fills, api.Fill{W: x, V: pickNumber(r, 0, 20000000)})
		}
	}
	return d
}

// wantPrint is the text of any deck whose rows are letters, Right or not.
func wantPrint(d api.Deck) string {
	var lines []string
	say := func(first, second string, n ...int64) {
		for _, v := range n {
			second += " " + strconv.FormatInt(v, 10)
		}
		lines = append(lines, first+" "+second+"\n")
	}
	pieces := func(s []api.Section) {
		for _, x := range s {
			if x.Round {
				say("round", strconv.FormatInt(x.H, 10), x.A0, x.A1)
			} else {
				say("box", strconv.FormatInt(x.H, 10), x.A0, x.B0, x.A1, x.B1)
			}
		}
	}
	for _, w := range d.Wares {
		say("ware", w.Name, int64(w.Rows), int64(w.Cols), w.Tol)
		pieces(w.Shape)
	}
	for _, t := range d.Tips {
		say("tip", t.Name, t.Cap, t.Filter, t.Err)
		pieces(t.Outer)
	}
	for _, f := range d.Fills {
		row := "-"
		if f.W.Row >= 0 && f.W.Row < 8 {
			row = "ABCDEFGH"[f.W.Row : f.W.Row+1]
		}
		say("fill", f.W.Ware+"."+row+strconv.Itoa(f.W.Col+1), f.V)
	}
	return strings.Join(lines, "")
}

// cut makes lines of a text of any bytes, at blanks and line feeds alone.
func cut(s string) [][]lex.Word {
	var l [][]lex.Word
	at := 0
	for line := range strings.Lines(s) {
		var w []lex.Word
		for word := range strings.SplitSeq(strings.TrimSuffix(line, "\n"), " ") {
			w = append(w, lex.Word{At: at, Text: word})
			at += len(word) + 1
		}
		l = append(l, w)
	}
	return l
}

// oddWords are such that one or the other kind of line may not have.
func oddWords() []string {
	return []string{
		"0", "1", "2", "8", "9", "12", "13", "50", "100", "10000", "10001", "20000", "20001", "60000", "60001", "1000000", "1000001", "20000000", "20000001", "1000000000000", "1000000000001",
		"01", "x", "P", "p", "q", "r", "plate", "p.A1", "p.B2", "q.H12", "q.A1", "r.I1", "r.A13", "p.A01", ".", "", " ", "p.A1\n", "\xff", "ware", "tip", "fill", "round", "box", "use", "abcdefghijklmnopq", "-1", "p.", "plate.a1",
	}
}

// spoil changes a little of the lines, in place of a careless writer.
func spoil(r *rand.Rand, l [][]lex.Word) [][]lex.Word {
	l = slices.Clone(l)
	if len(l) == 0 {
		return append(l, words(lex.Word{At: 7, Text: pick(r, oddWords()...)}))
	}
	i, k := r.Intn(len(l)), r.Intn(len(l))
	switch w := slices.Clone(l[i]); r.Intn(9) {
	case 0, 1, 2:
		if len(w) > 0 {
			w[r.Intn(len(w))].Text = pick(r, oddWords()...)
			l[i] = w
		}
	case 3:
		l[i] = w[:r.Intn(len(w)+1)]
	case 4:
		l[i] = append(w, lex.Word{At: r.Intn(1000), Text: pick(r, oddWords()...)})
	case 5:
		l[i], l[k] = l[k], l[i]
	case 6:
		l = slices.Insert(l, k, w)
	case 7:
		l = slices.Delete(l, i, i+1)
	case 8:
		l = append(l, cut(pick(r, "ware", "tip")+" more "+pick(r, "1", "x")+" 1 0\nround 100 0 1\n")...)
	}
	return l
}

func checkParse(t *testing.T, l [][]lex.Word) api.Errno {
	t.Helper()
	d, rest, at, e := Parse(l)
	wantD, wantRest, wantAt, wantE := wantParse(l)
	if !same(d, wantD) || !linesSame(rest, wantRest) || at != wantAt || e != wantE {
		t.Errorf("Parse(%v): %v, %v, %d, %d, not %v, %v, %d, %d", l, d, rest, at, e, wantD, wantRest, wantAt, wantE)
	}
	if e == api.OK && !Right(d) {
		t.Errorf("Parse(%v) isn't Right: %v", l, d)
	}
	return e
}

// P9.1: decks as they are written, their groups of lines in any order, and what becomes of them by few changes.
func TestParseOfMany(t *testing.T) {
	r := rand.New(rand.NewSource(1))
	told := map[api.Errno]int{}
	for range 1500 {
		l := cut(wantPrint(pickDeck(r)))
		if e := checkParse(t, l); e != api.OK {
			t.Fatalf("Parse(%v): %d", l, e)
		}
		for range 10 {
			bad := l
			for range 1 + r.Intn(3) {
				bad = spoil(r, bad)
			}
			told[checkParse(t, bad)]++
		}
	}
	for _, e := range []api.Errno{api.OK, api.ErrWord, api.ErrRange, api.ErrName, api.ErrMany, api.ErrShape, api.ErrWell} {
		if told[e] < 100 {
			t.Errorf("too few of %d were tried: %v", e, told)
		}
	}
}

// P9.1: lines of any words.
func TestParseOfAnyWords(t *testing.T) {
	r := rand.New(rand.NewSource(2))
	for range 30000 {
		var l [][]lex.Word
		for range r.Intn(6) {
			var w []lex.Word
			for range r.Intn(7) {
				w = append(w, lex.Word{At: pick(r, r.Intn(100), -1, math.MaxInt, math.MinInt), Text: pick(r, oddWords()...)})
			}
			if len(w) > 0 && r.Intn(4) > 0 {
				w[0].Text = pick(r, "ware", "tip", "fill", "round", "box")
			}
			l = append(l, w)
		}
		checkParse(t, l)
	}
}

// P9.2
func TestPrint(t *testing.T) {
	if got := Print(plain()); got != plainText {
		t.Errorf("Print: %q", got)
	}
	if got := Print(api.Deck{}); got != "" || !Right(api.Deck{}) {
		t.Errorf("Print of nothing: %q", got)
	}
	if got := Print(api.Deck{Wares: []api.Ware{}, Tips: []api.Tip{}, Fills: []api.Fill{}}); got != "" {
		t.Errorf("Print of nothing: %q", got)
	}
	one := api.Deck{Wares: []api.Ware{{Name: "plate", Rows: 8, Cols: 12, Shape: list(round(100, 0, 1))}}}
	const head = "ware plate 8 12 0\nround 100 0 1\n"
	for row := range 8 {
		for col := range 12 {
			one.Fills = []api.Fill{{W: api.Well{Ware: "plate", Row: row, Col: col}, V: 500}}
			if got := Print(one); got != head+"fill plate."+"ABCDEFGH"[row:row+1]+strconv.Itoa(col+1)+" 500\n" {
				t.Errorf("Print of row %d, column %d: %q", row, col, got)
			}
		}
	}
}

// tells holds that a deck is Right, or not, and what that means of Print and Parse.
func tells(t *testing.T, d api.Deck, right bool) {
	t.Helper()
	if got := Right(d); got != right {
		t.Errorf("Right(%v): %v", d, got)
	}
	s := Print(d)
	if !right {
		if s != "" {
			t.Errorf("Print(%v): %q", d, s)
		}
		return
	}
	if s != wantPrint(d) {
		t.Errorf("Print(%v): %q", d, s)
	}
	got, rest, at, e := Parse(linesOf(t, s))
	if !same(got, d) || len(rest) != 0 || at != 0 || e != api.OK {
		t.Errorf("Parse of Print(%v): %v, %v, %d, %d", d, got, rest, at, e)
	}
}

// P9.2: each field at its bounds and past them.
func TestRightOfEachField(t *testing.T) {
	tells(t, plain(), true)
	for _, x := range []struct {
		of          func(d *api.Deck) *int64
		least, most int64
	}{
		{func(d *api.Deck) *int64 { return &d.Wares[0].Tol }, 0, 1000000},
		{func(d *api.Deck) *int64 { return &d.Wares[1].Tol }, 0, 1000000},
		{func(d *api.Deck) *int64 { return &d.Tips[0].Cap }, 1, 20000000},
		{func(d *api.Deck) *int64 { return &d.Tips[1].Cap }, 1, 20000000},
		{func(d *api.Deck) *int64 { return &d.Tips[0].Filter }, 1, 60000},
		{func(d *api.Deck) *int64 { return &d.Tips[1].Err }, 0, 10000},
		{func(d *api.Deck) *int64 { return &d.Fills[0].V }, 0, 20000000},
		{func(d *api.Deck) *int64 { return &d.Fills[2].V }, 0, 20000000},
		{func(d *api.Deck) *int64 { return &d.Wares[0].Shape[0].A0 }, 0, 20000},
		{func(d *api.Deck) *int64 { return &d.Wares[0].Shape[0].B0 }, 0, 20000},
		{func(d *api.Deck) *int64 { return &d.Wares[0].Shape[0].A1 }, 1, 20000},
		{func(d *api.Deck) *int64 { return &d.Wares[0].Shape[0].B1 }, 1, 20000},
		{func(d *api.Deck) *int64 { return &d.Wares[1].Shape[1].B0 }, 0, 20000},
		{func(d *api.Deck) *int64 { return &d.Wares[1].Shape[0].A0 }, 0, 20000},
		{func(d *api.Deck) *int64 { return &d.Wares[1].Shape[0].A1 }, 1, 20000},
		{func(d *api.Deck) *int64 { return &d.Wares[1].Shape[0].B0 }, 0, 0},
		{func(d *api.Deck) *int64 { return &d.Wares[1].Shape[0].B1 }, 0, 0},
		{func(d *api.Deck) *int64 { return &d.Tips[0].Outer[1].A0 }, 0, 20000},
		{func(d *api.Deck) *int64 { return &d.Tips[0].Outer[1].B0 }, 0, 0},
		{func(d *api.Deck) *int64 { return &d.Tips[1].Outer[0].B1 }, 1, 20000},
	} {
		for _, v := range []int64{x.least, x.most} {
			d := plain()
			*x.of(&d) = v
			tells(t, d, true)
		}
		for _, v := range []int64{x.least - 1, x.most + 1, -1, lowest, highest, 1 << 32, highest - 1000} {
			d := plain()
			*x.of(&d) = v
			tells(t, d, false)
		}
	}
	for _, of := range []func(d *api.Deck) *int64{
		func(d *api.Deck) *int64 { return &d.Wares[0].Shape[0].H },
		func(d *api.Deck) *int64 { return &d.Tips[1].Outer[0].H },
	} {
		for _, v := range []int64{100, 200, 59900, 60000, 0, -100, 1, 99, 150, 60100, lowest, highest} {
			d := plain()
			*of(&d) = v
			tells(t, d, v > 0 && v <= 60000 && v%100 == 0)
		}
	}
}

// P9.2: rows and columns, and the wells that there are then.
func TestRightOfRowsAndColumns(t *testing.T) {
	odd := []int{math.MinInt, -1, 0, 1, 2, 3, 7, 8, 9, 11, 12, 13, 100, math.MaxInt}
	for _, rows := range odd {
		for _, cols := range odd {
			d := plain()
			d.Wares[0].Rows, d.Wares[0].Cols = rows, cols
			good := rows >= 1 && rows <= 8 && cols >= 1 && cols <= 12
			// it has a fill of row 1, column 2
			tells(t, d, good && rows > 1 && cols > 2)
			d.Fills = nil
			tells(t, d, good)
		}
	}
	for row := -2; row < 10; row++ {
		for col := -2; col < 14; col++ {
			d := plain()
			d.Wares[0].Rows, d.Wares[0].Cols = 5, 7
			d.Fills[0].W.Row, d.Fills[0].W.Col = row, col
			// another fill is of row 1, column 2
			tells(t, d, row >= 0 && row < 5 && col >= 0 && col < 7 && !(row == 1 && col == 2))
		}
	}
	for _, far := range []int{math.MinInt, math.MaxInt, 1 << 32, 256, -256} {
		d := plain()
		d.Fills[0].W.Row = far
		tells(t, d, false)
		d = plain()
		d.Fills[0].W.Col = far
		tells(t, d, false)
	}
}

// P9.2: names, and the fills' wares.
func TestRightOfNames(t *testing.T) {
	for _, s := range []string{"a", "z9", "abcdefghijklmnop", "small", "", "A", "9z", "a.b", "a b", "abcdefghijklmnopq", "a\n", "\xff", "plate ", "box", "fill"} {
		good := nameForm.MatchString(s)
		d := plain()
		d.Wares[1].Name, d.Fills[1].W.Ware = s, s
		tells(t, d, good)
		d.Fills[1].W.Ware = "trough"
		tells(t, d, false)
		d = plain()
		d.Tips[1].Name = s
		tells(t, d, good && s != "small")
	}
	d := plain()
	d.Wares[1].Name, d.Fills = "plate", nil
	tells(t, d, false)
	d = plain()
	d.Tips[0].Name = "plate"
	tells(t, d, false)
	d = plain()
	d.Tips[0].Name = "trough"
	tells(t, d, true)
	// a tip has no wells
	d = plain()
	d.Fills[1].W.Ware = "small"
	tells(t, d, false)
	d = plain()
	d.Fills[2] = d.Fills[0]
	tells(t, d, false)
	d = plain()
	d.Fills[2].W, d.Fills[2].V = d.Fills[1].W, 77
	tells(t, d, false)
	// fills may stand in any order
	d = plain()
	slices.Reverse(d.Fills)
	tells(t, d, true)
	d = plain()
	slices.Reverse(d.Wares)
	slices.Reverse(d.Tips)
	tells(t, d, true)
}

// P9.2: shapes.
func TestRightOfShapes(t *testing.T) {
	for _, x := range []struct {
		s    []api.Section
		want bool
	}{
		{nil, false},
		{list(), false},
		{list(round(100, 0, 1)), true},
		{slices.Repeat(list(round(15000, 0, 1)), 4), true},
		{slices.Repeat(list(round(15100, 0, 1)), 4), false},
		{slices.Repeat(list(round(100, 0, 1)), 5), false},
		{list(round(100, 0, 1), api.Section{}), false},
		{list(round(100, 0, 1), round(60000, 0, 1)), false},
		{list(round(highest-7, 0, 1), round(100, 0, 1)), false},
	} {
		d := plain()
		d.Wares[1].Shape = x.s
		tells(t, d, x.want)
		d = plain()
		d.Tips[0].Outer = x.s
		tells(t, d, x.want)
	}
}

// greatest is a deck of as much as there may be.
func greatest() api.Deck {
	var d api.Deck
	s := slices.Repeat(list(box(15000, 20000, 20000, 20000, 20000)), 4)
	for i := range 8 {
		name := "abcdefghijklmno" + strconv.Itoa(i)
		d.Wares = append(d.Wares, api.Ware{Name: name, Rows: 8, Cols: 12, Tol: 1000000, Shape: s})
		for k := range 96 {
			d.Fills = append(d.Fills, api.Fill{W: api.Well{Ware: name, Row: k / 12, Col: k % 12}, V: 20000000})
		}
	}
	for i := range 4 {
		d.Tips = append(d.Tips, api.Tip{Name: "abcdefghijklmno" + strconv.Itoa(i), Cap: 20000000, Filter: 60000, Err: 10000, Outer: s})
	}
	return d
}

// P9.2: at most so many; and the longest text is one that lex takes.
func TestRightOfTheGreatest(t *testing.T) {
	d := greatest()
	tells(t, d, true)
	if n := len(Print(d)); n > api.MaxText {
		t.Errorf("%d bytes", n)
	}
	more := greatest()
	more.Wares = append(more.Wares, api.Ware{Name: "more", Rows: 1, Cols: 1, Shape: list(round(100, 0, 1))})
	tells(t, more, false)
	more = greatest()
	more.Tips = append(more.Tips, api.Tip{Name: "more", Cap: 1, Filter: 1, Outer: list(round(100, 0, 1))})
	tells(t, more, false)
	more = greatest()
	more.Fills = append(more.Fills, api.Fill{W: api.Well{Ware: "abcdefghijklmno0"}, V: 1})
	tells(t, more, false)
}

// bend changes one field of a deck, mostly to what it may not be.
func bend(r *rand.Rand, d api.Deck) api.Deck {
	d = copied(d)
	odd := pick[int64](r, -1, 0, 1, 3, 8, 9, 12, 13, 50, 100, 10001, 20000, 20001, 60001, 1000001, 20000001, lowest, highest)
	name := pick(r, "p", "q", "r", "plate", "", "Q", "p.A", "abcdefghijklmnop", "abcdefghijklmnopq")
	var shapes []*api.Section
	for i := range d.Wares {
		for k := range d.Wares[i].Shape {
			shapes = append(shapes, &d.Wares[i].Shape[k])
		}
	}
	for i := range d.Tips {
		for k := range d.Tips[i].Outer {
			shapes = append(shapes, &d.Tips[i].Outer[k])
		}
	}
	if len(shapes) > 0 && r.Intn(3) == 0 {
		x := pick(r, shapes...)
		*pick(r, &x.H, &x.A0, &x.B0, &x.A1, &x.B1) = odd
		x.Round = r.Intn(2) == 0
	}
	if len(d.Wares) > 0 && r.Intn(3) == 0 {
		w := &d.Wares[r.Intn(len(d.Wares))]
		switch r.Intn(4) {
		case 0:
			w.Name = name
		case 1:
			w.Rows = int(odd)
		case 2:
			w.Cols = int(odd)
		case 3:
			w.Tol = odd
		}
	}
	if len(d.Tips) > 0 && r.Intn(3) == 0 {
		x := &d.Tips[r.Intn(len(d.Tips))]
		x.Name = pick(r, x.Name, name)
		*pick(r, &x.Cap, &x.Filter, &x.Err) = odd
	}
	if len(d.Fills) > 0 && r.Intn(3) == 0 {
		f := &d.Fills[r.Intn(len(d.Fills))]
		f.W.Ware = pick(r, f.W.Ware, name)
		*pick(r, &f.W.Row, &f.W.Col) = pick(r, int(odd), r.Intn(12))
		f.V = pick(r, f.V, odd)
	}
	if r.Intn(20) == 0 {
		d.Wares = append(d.Wares, d.Wares...)
		d.Fills = append(d.Fills, d.Fills...)
	}
	return d
}

// P9.2: a deck is Right just if its text, printed without asking, tells it.
func TestRightOfMany(t *testing.T) {
	r := rand.New(rand.NewSource(3))
	found := map[bool]int{}
	for range 6000 {
		d := pickDeck(r)
		tells(t, d, true)
		d = bend(r, d)
		got, rest, _, e := wantParse(cut(wantPrint(d)))
		right := e == api.OK && len(rest) == 0 && same(got, d)
		found[right]++
		tells(t, d, right)
	}
	if found[true] < 500 || found[false] < 500 {
		t.Errorf("too few of one kind were tried: %v", found)
	}
}

// P9.3: what stands there can be said, in whatever order its lines come, and is told back by what Print says of it.
func TestWhatStandsThereCanBeSaid(t *testing.T) {
	r := rand.New(rand.NewSource(4))
	for range 2000 {
		d := pickDeck(r)
		wares, tips, fills := wantPrint(api.Deck{Wares: d.Wares}), wantPrint(api.Deck{Tips: d.Tips}), wantPrint(api.Deck{Fills: d.Fills})
		// a fill stays behind its ware
		for _, s := range []string{wares + tips + fills, tips + wares + fills, wares + fills + tips} {
			got, rest, at, e := Parse(linesOf(t, s+"use t\n"))
			if !same(got, d) || len(rest) != 1 || at != 0 || e != api.OK || Print(got) != wares+tips+fills {
				t.Fatalf("Parse(%q): %v, %d, %d", s, got, at, e)
			}
		}
	}
}

// P9.1, and DOC.md's third rule: lines aren't changed, those behind them count for nothing, and none is kept.
func TestLinesAreLeftAlone(t *testing.T) {
	whole := linesOf(t, plainText+"use small\nuse plate\nware behind 1 1 0\n")
	before := make([][]lex.Word, len(whole))
	for i := range whole {
		// spare room behind each line
		whole[i] = append(slices.Clone(whole[i]), lex.Word{At: 1, Text: "spare"})[:len(whole[i])]
		before[i] = slices.Clone(whole[i])
	}
	n := len(whole) - 1
	d, rest, _, e := Parse(whole[:n])
	if e != api.OK || !linesSame(whole, before) || !linesSame(rest, before[n-2:n]) {
		t.Fatalf("%v, %v, %d", whole, rest, e)
	}
	for i, line := range whole {
		spare := line[:len(line)+1][len(line)]
		if spare != (lex.Word{At: 1, Text: "spare"}) {
			t.Errorf("behind line %d: %v", i, spare)
		}
		line[0] = lex.Word{}
		whole[i] = nil
	}
	if !same(d, plain()) || !linesSame(rest, before[n-2:n]) {
		t.Errorf("the answer changes with the lines: %v, %v", d, rest)
	}
}

// P9.1, and DOC.md's third rule: what is answered is new, no list of it behind another.
func TestAnswersAreNew(t *testing.T) {
	l := linesOf(t, plainText+"use small\nuse plate\nuse trough\n")
	first, rest, _, _ := Parse(l)
	second, _, _, _ := Parse(l)
	for i := range rest {
		_ = append(rest[i], lex.Word{At: 77, Text: "x"}, lex.Word{At: 78, Text: "y"})
	}
	if !linesSame(rest, l[len(l)-3:]) {
		t.Errorf("a line grew into another: %v", rest)
	}
	for i := range rest {
		rest[i][0] = lex.Word{}
		rest[i] = nil
	}
	if l[len(l)-1][0].Text != "use" || len(l[len(l)-2]) != 2 {
		t.Errorf("lines share with the answer: %v", l)
	}
	for i := range first.Wares {
		_ = append(first.Wares[i].Shape, box(1, 2, 3, 4, 5))
	}
	for i := range first.Tips {
		_ = append(first.Tips[i].Outer, box(1, 2, 3, 4, 5))
	}
	if !same(first, plain()) {
		t.Errorf("a list grew into another: %v", first)
	}
	for i := range first.Wares {
		first.Wares[i].Shape[0].H = 7
		first.Wares[i] = api.Ware{}
	}
	for i := range first.Tips {
		first.Tips[i].Outer[0].H = 7
		first.Tips[i] = api.Tip{}
	}
	clear(first.Fills)
	if !same(second, plain()) {
		t.Errorf("two answers share: %v", second)
	}
}

// P9.2, and DOC.md's third rule: a deck that is asked or printed stays as it is.
func TestDecksAreLeftAlone(t *testing.T) {
	r := rand.New(rand.NewSource(5))
	for range 500 {
		d := pickDeck(r)
		if r.Intn(2) == 0 {
			d = bend(r, d)
		}
		before := copied(d)
		Right(d)
		Print(d)
		if !same(d, before) {
			t.Errorf("%v was changed: %v", before, d)
		}
	}
}

// tell is all that is answered of lines.
func tell(l [][]lex.Word) string {
	d, rest, at, e := Parse(l)
	s := Print(d) + strconv.Itoa(at) + " " + strconv.Itoa(int(e)) + " " + strconv.FormatBool(Right(d))
	for _, w := range rest {
		for _, x := range w {
			s += " " + x.Text
		}
	}
	return s
}

// P9.1, P9.2, and DOC.md's eighth rule: the answers hang on the arguments alone, asked again, by many at once.
func TestSameAgain(t *testing.T) {
	r := rand.New(rand.NewSource(6))
	for range 200 {
		l := cut(wantPrint(pickDeck(r)))
		if r.Intn(2) == 0 {
			l = spoil(r, l)
		}
		told := tell(l)
		var all sync.WaitGroup
		got := make([]string, 4)
		for i := range got {
			all.Go(func() { got[i] = tell(l) })
		}
		all.Wait()
		for _, s := range append(got, tell(l)) {
			if s != told {
				t.Errorf("%v isn't the same again", l)
			}
		}
	}
}

// P9.1: as many lines, sections and words as a source may have, and more.
func TestParseOfGreatLists(t *testing.T) {
	section := words(lex.Word{At: 20, Text: "round"}, lex.Word{At: 26, Text: "100"}, lex.Word{At: 30, Text: "0"}, lex.Word{At: 32, Text: "1"})
	head := words(lex.Word{At: 5, Text: "ware"}, lex.Word{At: 10, Text: "p"}, lex.Word{At: 12, Text: "1"}, lex.Word{At: 14, Text: "1"}, lex.Word{At: 16, Text: "0"})
	long := append([][]lex.Word{head}, slices.Repeat([][]lex.Word{section}, 200000)...)
	if _, _, at, e := Parse(long); at != 5 || e != api.ErrShape {
		t.Errorf("many sections: %d, %d", at, e)
	}
	if _, _, at, e := Parse([][]lex.Word{slices.Repeat(head, 100000)}); at != 5 || e != api.ErrWord {
		t.Errorf("many words: %d, %d", at, e)
	}
	use := slices.Repeat([][]lex.Word{words(lex.Word{At: 1, Text: "use"})}, 200000)
	if _, rest, at, e := Parse(use); !linesSame(rest, use) || at != 0 || e != api.OK {
		t.Errorf("many other lines: %d, %d", at, e)
	}
}

// The limits that the tests count with are package api's.
func TestLimits(t *testing.T) {
	limits := []int64{api.MaxRows, api.MaxCols, api.MaxWares, api.MaxTips, api.MaxSections, api.MaxTol, api.MaxErr, api.MaxVolume, api.MaxHeight, api.MaxSide, api.Slice, api.MaxName}
	if !slices.Equal(limits, []int64{8, 12, 8, 4, 4, 1000000, 10000, 20000000, 60000, 20000, 100, 16}) {
		t.Errorf("other limits: %v", limits)
	}
	errnos := []api.Errno{api.ErrWord, api.ErrName, api.ErrRange, api.ErrMany, api.ErrShape, api.ErrWell}
	if !slices.Equal(errnos, []api.Errno{24, 25, 20, 27, 23, 26}) {
		t.Errorf("other errors: %v", errnos)
	}
}

// FuzzParse holds any words against chapter 9 in other words.
func FuzzParse(f *testing.F) {
	for _, s := range []string{"", plainText, plainText + "use small\n", "ware p 1 1 0\n", "tip t 1 1 0\nround 150 0 1\n", "fill p.A1 5\n", "box 100 1 1 1 1"} {
		f.Add(s)
	}
	f.Fuzz(func(t *testing.T, s string) { checkParse(t, cut(s)) })
}
