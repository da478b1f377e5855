package proto

import (
	"math"
	"math/rand"
	"regexp"
	"slices"
	"strconv"
	"strings"
	"sync"
	"testing"

	"dipper/api"
	"dipper/lex"
	"dipper/well"
)

const (
	maxSteps  = 200
	maxList   = 96
	maxVolume = 20000000
	maxMix    = 20
	longest   = "abcdefghijklmnop"
)

func wellAt(name string, row, col int) api.Well { return api.Well{Ware: name, Row: row, Col: col} }

func wells(w ...api.Well) []api.Well { return w }

// linesOf are the lines of a text that lex takes.
func linesOf(t *testing.T, s string) [][]lex.Word {
	t.Helper()
	l, _, e := lex.Lines([]byte(s))
	if e != api.OK {
		t.Fatalf("lex.Lines(%.80q): %d", s, e)
	}
	return l
}

// cut makes lines of any text, one blank or line feed behind another making words of nothing.
func cut(s string) [][]lex.Word {
	var l [][]lex.Word
	at := 0
	for _, line := range strings.Split(strings.TrimSuffix(s, "\n"), "\n") {
		var words []lex.Word
		for _, text := range strings.Split(line, " ") {
			words = append(words, lex.Word{At: at, Text: text})
			at += len(text) + 1
		}
		if line == "" {
			words = nil
		}
		l = append(l, words)
	}
	return l
}

func stepsSame(a, b api.Step) bool {
	return a.Kind == b.Kind && a.Name == b.Name && slices.Equal(a.W, b.W) && a.V == b.V && a.N == b.N
}

// same takes nil and nothing as the same.
func same(a, b []api.Step) bool { return slices.EqualFunc(a, b, stepsSame) }

func placesSame(a, b [][]int) bool { return slices.EqualFunc(a, b, slices.Equal[[]int]) }

// copied are steps that share nothing with l.
func copied(l []api.Step) []api.Step {
	c := slices.Clone(l)
	for i := range c {
		c[i].W = slices.Clone(c[i].W)
	}
	return c
}

// takes holds that Parse of s tells these steps, and the words' own offsets.
func takes(t *testing.T, s string, want ...api.Step) {
	t.Helper()
	l := linesOf(t, s)
	var offsets [][]int
	for _, words := range l {
		var at []int
		for _, w := range words {
			at = append(at, w.At)
		}
		offsets = append(offsets, at)
	}
	steps, places, at, e := Parse(l)
	if !same(steps, want) || !placesSame(places, offsets) || at != 0 || e != api.OK {
		t.Errorf("Parse(%.200q): %v, %v, %d, %d, not %v, %v", s, steps, places, at, e, want, offsets)
	}
}

// refuses holds that Parse of s, without its @, ends with that error at the offset where @ stands, all else being zero.
func refuses(t *testing.T, s string, e api.Errno) {
	t.Helper()
	ahead, behind, _ := strings.Cut(s, "@")
	steps, places, at, got := Parse(linesOf(t, ahead+behind))
	if at != len(ahead) || got != e || len(steps) != 0 || len(places) != 0 {
		t.Errorf("Parse(%.200q): %v, %v, %d, %d, not %d, %d", s, steps, places, at, got, len(ahead), e)
	}
}

// plain are steps of each kind, new each time.
func plain() []api.Step {
	p, q := wellAt("p", 0, 0), wellAt("plate9", 7, 11)
	return []api.Step{
		{Kind: api.Use, Name: "small"},
		{Kind: api.Fresh, N: 1},
		{Kind: api.Transfer, W: wells(p, q), V: 500},
		{Kind: api.Spread, W: wells(q, p, q, p), V: 20},
		{Kind: api.Gather, W: wells(p, q), V: maxVolume},
		{Kind: api.Fresh},
		{Kind: api.Mix, W: wells(q), V: 1, N: maxMix},
		{Kind: api.Dilute, W: wells(p, q, p), V: 7},
	}
}

const plainText = `use small
fresh each
transfer p.A1 plate9.H12 500
spread plate9.H12 20 p.A1 plate9.H12 p.A1
gather p.A1 20000000 plate9.H12
fresh once
mix plate9.H12 1 20
dilute 7 p.A1 plate9.H12 p.A1
`

// P12.1
func TestParse(t *testing.T) {
	takes(t, plainText, plain()...)
	takes(t, "")
	takes(t, "# nothing\n\n")
	takes(t, "mix p.A1 100 3", api.Step{Kind: api.Mix, W: wells(wellAt("p", 0, 0)), V: 100, N: 3})
	takes(t, "transfer p.A1 p.A1 1\n", api.Step{Kind: api.Transfer, W: wells(wellAt("p", 0, 0), wellAt("p", 0, 0)), V: 1})
	takes(t, "spread q.B2 1 p.A1\n", api.Step{Kind: api.Spread, W: wells(wellAt("q", 1, 1), wellAt("p", 0, 0)), V: 1})
	takes(t, "gather q.B2 1 p.A1\n", api.Step{Kind: api.Gather, W: wells(wellAt("q", 1, 1), wellAt("p", 0, 0)), V: 1})
	takes(t, "dilute 1 q.B2 p.A1\n", api.Step{Kind: api.Dilute, W: wells(wellAt("q", 1, 1), wellAt("p", 0, 0)), V: 1})
}

// P12.1: the offsets are those of the words, wherever these stand.
func TestParsePlaces(t *testing.T) {
	s := "\n# use a\n  use\tsmall # use b\n\n\n\tspread  p.A1 5   q.C2\tq.C3\n fresh  once"
	_, places, at, e := Parse(linesOf(t, s))
	var want [][]int
	for _, line := range [][]string{{"use\t", "small"}, {"spread", "p.A1", "5 ", "q.C2", "q.C3"}, {"fresh", "once"}} {
		var l []int
		for _, w := range line {
			l = append(l, strings.Index(s, w))
		}
		want = append(want, l)
	}
	if !placesSame(places, want) || at != 0 || e != api.OK {
		t.Errorf("Parse(%q): %v, %d, %d, not %v", s, places, at, e, want)
	}
	// words say where they stand, whether lex said so or not
	odd := [][]lex.Word{{{At: -7, Text: "use"}, {At: math.MaxInt, Text: "a"}}, {{At: math.MinInt, Text: "fresh"}, {At: 0, Text: "each"}}}
	if _, places, _, e := Parse(odd); !placesSame(places, [][]int{{-7, math.MaxInt}, {math.MinInt, 0}}) || e != api.OK {
		t.Errorf("odd places: %v, %d", places, e)
	}
	odd[1][1].Text = "now"
	if _, _, at, e := Parse(odd); at != math.MinInt || e != api.ErrWord {
		t.Errorf("an odd place: %d, %d", at, e)
	}
}

// P12.1: a line of no words counts as none, wherever it stands.
func TestParseLinesWithoutWords(t *testing.T) {
	l := linesOf(t, plainText)
	steps, places, _, _ := Parse(l)
	for _, none := range [][]lex.Word{nil, {}, l[0][:0]} {
		var gaps [][]lex.Word
		for _, words := range l {
			gaps = append(gaps, none, none, words)
		}
		gaps = append(gaps, none)
		got, at, offset, e := Parse(gaps)
		if !same(got, steps) || !placesSame(at, places) || offset != 0 || e != api.OK {
			t.Errorf("with gaps: %v, %v, %d, %d", got, at, offset, e)
		}
		for _, empty := range [][][]lex.Word{nil, {}, {none}, slices.Repeat([][]lex.Word{none}, 1000)} {
			if got, at, offset, e := Parse(empty); len(got) != 0 || len(at) != 0 || offset != 0 || e != api.OK {
				t.Errorf("of nothing: %v, %v, %d, %d", got, at, offset, e)
			}
		}
		// they aren't counted as steps either
		full := append(slices.Repeat([][]lex.Word{none, l[0]}, maxSteps), none)
		if got, _, _, e := Parse(full); len(got) != maxSteps || e != api.OK {
			t.Errorf("as many as there may be: %d steps, %d", len(got), e)
		}
	}
}

// P12.1: words that begin lines are names as others are.
func TestParseNamesLikeWords(t *testing.T) {
	for _, s := range []string{"use", "fresh", "each", "once", "transfer", "spread", "gather", "mix", "dilute", "ware"} {
		w := wellAt(s, 0, 0)
		takes(t, "use "+s+"\nmix "+s+".A1 5 2\n", api.Step{Kind: api.Use, Name: s}, api.Step{Kind: api.Mix, W: wells(w), V: 5, N: 2})
		refuses(t, "mix @"+s+" 5 2\n", api.ErrWell)
		refuses(t, "transfer "+s+".A1 "+s+".A1 @"+s+"\n", api.ErrRange)
	}
}

// P12.1: ErrWord of lines that begin with another word.
func TestParseOtherLines(t *testing.T) {
	for _, word := range []string{"us", "uses", "Use", "USE", "u", "fresh1", "Fresh", "transfers", "trans", "spreads", "spreaD", "gathers", "gat", "mixes", "mi", "dilutes", "dilut", "ware", "tip", "fill", "round", "box", "each", "once", "5", ".", "use.a", "p.A1", "part", "Go"} {
		for _, behind := range []string{"", " small", " each", " p.A1 p.A2 5", " p.A1 5 p.A2", " p.A1 5 2", " 5 p.A1 p.A2", " x y z"} {
			refuses(t, "@"+word+behind+"\n", api.ErrWord)
			refuses(t, plainText+"  @"+word+behind+"\nuse A\n", api.ErrWord)
		}
	}
	for _, text := range []string{"", " ", "use ", " use", "use\n", "use a", "\x00", "use\x00", "\xff", "ｕｓｅ"} {
		l := [][]lex.Word{{{At: 3, Text: text}, {At: 9, Text: "a"}}}
		if _, _, at, e := Parse(l); at != 3 || e != api.ErrWord {
			t.Errorf("%q: %d, %d", text, at, e)
		}
	}
}

// P12.1: ErrWord of each line with each number of words that isn't its own, whatever they are.
func TestParseTooFewOrManyWords(t *testing.T) {
	for _, x := range []struct {
		line string
		most int
	}{
		{"use small", 2}, {"fresh each", 2}, {"fresh once", 2}, {"transfer p.A1 p.A2 5", 4}, {"mix p.A1 5 2", 4},
		{"spread p.A1 5 p.A2", 98}, {"gather p.A1 5 p.A2", 98}, {"dilute 5 p.A1 p.A2", 98},
	} {
		own := strings.Fields(x.line)
		for n := 1; n <= 120; n++ {
			for _, more := range []string{"p.A1", "1", "x", "P", ".", "each"} {
				w := slices.Clone(own)
				for len(w) < n {
					w = append(w, more)
				}
				s := " " + strings.Join(w[:n], " ") + "\n"
				_, _, at, e := Parse(linesOf(t, s))
				want := api.OK
				switch {
				case n < len(own), n > x.most && x.most < 98:
					want = api.ErrWord
				case n > x.most:
					want = api.ErrMany
				case n > len(own) && more != "p.A1":
					want = api.ErrWell
				}
				wantAt := 0
				if want == api.ErrWell {
					wantAt = 1 + len(x.line) + 1
				} else if want != api.OK {
					wantAt = 1
				}
				if at != wantAt || e != want {
					t.Errorf("Parse(%.80q), %d words: %d, %d, not %d, %d", s, n, at, e, wantAt, want)
				}
			}
		}
	}
}

// P12.1: "fresh" of another word.
func TestParseFresh(t *testing.T) {
	takes(t, "fresh each", api.Step{Kind: api.Fresh, N: 1})
	takes(t, "fresh once", api.Step{Kind: api.Fresh})
	takes(t, "fresh each\nfresh each\nfresh once\nfresh once\n", api.Step{Kind: api.Fresh, N: 1}, api.Step{Kind: api.Fresh, N: 1}, api.Step{Kind: api.Fresh}, api.Step{Kind: api.Fresh})
	for _, word := range []string{"now", "Each", "ONCE", "eac", "each1", "onces", "on", "0", "1", ".", "p.A1", "fresh"} {
		refuses(t, " @fresh "+word+"\n", api.ErrWord)
	}
	for _, text := range []string{"", "each ", " once", "once\n"} {
		if _, _, at, e := Parse([][]lex.Word{{{At: 3, Text: "fresh"}, {At: 9, Text: text}}}); at != 3 || e != api.ErrWord {
			t.Errorf("fresh %q: %d, %d", text, at, e)
		}
	}
}

// P12.1: ErrMany of steps.
func TestParseTooManySteps(t *testing.T) {
	full := strings.Repeat("fresh each\nuse a\n", maxSteps/2)
	for _, line := range []string{"use a", "fresh once", "transfer p.A1 p.A2 5", "spread p.A1 5 p.A2", "gather p.A1 5 p.A2", "mix p.A1 5 2", "dilute 5 p.A1 p.A2"} {
		l, _, at, e := Parse(linesOf(t, full[:len(full)-len("use a\n")]+line+"\n"))
		if len(l) != maxSteps || at != 0 || e != api.OK {
			t.Errorf("%q as the last step: %d, %d, %d", line, len(l), at, e)
		}
		refuses(t, full+" @"+line+"\n", api.ErrMany)
		refuses(t, full+"# a\n\n@"+line+"\nuse\n", api.ErrMany)
		refuses(t, full+"@"+line+"\n"+full, api.ErrMany)
	}
	for _, line := range []string{"use A", "transfer x x x", "mix p.A1 0 0", "dilute 0 p.A1 p.A2", "spread p.A1 5" + strings.Repeat(" p.A1", 96)} {
		refuses(t, full+"@"+line+"\n", api.ErrMany)
	}
	for _, line := range []string{"us a", "use", "fresh now", "transfer x x", "mix p.A1 0", "dilute 0 p.A1", "spread p.A1 5"} {
		refuses(t, full+"@"+line+"\n", api.ErrWord)
	}
	takes(t, full, slices.Repeat([]api.Step{{Kind: api.Fresh, N: 1}, {Kind: api.Use, Name: "a"}}, maxSteps/2)...)
}

// P12.1: ErrMany of wells in one step.
func TestParseTooManyWells(t *testing.T) {
	for _, x := range []struct {
		kind            int
		ahead, odd, bad string
	}{
		{api.Spread, "spread p.A1 5", "spread x 5", "spread p.A1 0"},
		{api.Gather, "gather p.A1 5", "gather p.A0 x", "gather p.A1 x"},
		{api.Dilute, "dilute 5 p.A1", "dilute x p.A1", "dilute 20000001 p.A1"},
	} {
		all := slices.Repeat(wells(wellAt("p", 0, 0)), maxList)
		rest := strings.Repeat(" p.A1", maxList-1)
		takes(t, x.ahead+rest+"\n", api.Step{Kind: x.kind, W: all, V: 5})
		takes(t, x.ahead+rest[5:]+"\n", api.Step{Kind: x.kind, W: all[1:], V: 5})
		for _, ahead := range []string{x.ahead, x.odd, x.bad} {
			for _, more := range []string{" p.A1", " x", " 5", " p.A1 p.A1", strings.Repeat(" p.A1", 1000)} {
				refuses(t, "use a\n @"+ahead+rest+more+"\n", api.ErrMany)
				refuses(t, "@"+ahead+rest+more+"\nuse\n", api.ErrMany)
			}
		}
	}
}

// P12.1: ErrName.
func TestParseNames(t *testing.T) {
	for _, good := range []string{"a", "z9", longest, "a000000000000000", "use"} {
		takes(t, "use "+good, api.Step{Kind: api.Use, Name: good})
	}
	for _, bad := range []string{"A", "aB", "9", "9a", "a.b", ".", "p.A1", "a.", longest + "q", strings.Repeat("a", 10000)} {
		refuses(t, "use  @"+bad+"\nuse\n", api.ErrName)
	}
	for _, bad := range []string{"", " ", "a ", " a", "a\n", "é", "a\x00", "\xff", "a-b"} {
		if l, places, at, e := Parse([][]lex.Word{{{At: 3, Text: "use"}, {At: 9, Text: bad}}}); at != 9 || e != api.ErrName || len(l) != 0 || len(places) != 0 {
			t.Errorf("use %q: %d, %d", bad, at, e)
		}
	}
}

// P12.1: each V and N at its bounds and past them, and words that are no number.
func TestParseNumbers(t *testing.T) {
	wrong := []string{"0", "x", "00", "01", "1.0", ".", "5x", "P", "p.A1", "each", "1000000000000", "1000000000001", "4294967297", "4294967298", "9223372036854775808", "18446744073709551617", "1" + strings.Repeat("0", 100)}
	for _, x := range []struct {
		ahead, behind string
		most          int64
	}{
		{"transfer p.A1 p.A2 ", "", maxVolume},
		{"spread p.A1 ", " p.A2 p.A3", maxVolume},
		{"gather p.A1 ", " p.A2", maxVolume},
		{"mix p.A1 ", " 2", maxVolume},
		{"mix p.A1 5 ", "", maxMix},
		{"dilute ", " p.A1 p.A2", maxVolume},
	} {
		for _, v := range []int64{1, 2, x.most / 2, x.most - 1, x.most} {
			l, _, at, e := Parse(linesOf(t, x.ahead+strconv.FormatInt(v, 10)+x.behind))
			if at != 0 || e != api.OK || len(l) != 1 {
				t.Fatalf("%s%d%s: %d, %d", x.ahead, v, x.behind, at, e)
			}
			if got := l[0].V; x.most == maxVolume && got != v {
				t.Errorf("%s%d%s: V %d", x.ahead, v, x.behind, got)
			}
			if got := l[0].N; x.most == maxMix && int64(got) != v {
				t.Errorf("%s%d%s: N %d", x.ahead, v, x.behind, got)
			}
		}
		for _, w := range append(wrong, strconv.FormatInt(x.most+1, 10), strconv.FormatInt(10*x.most, 10)) {
			refuses(t, "use a\n"+x.ahead+"@"+w+x.behind+"\nuse\n", api.ErrRange)
		}
		for _, text := range []string{"", " 5", "5 ", "-5", "+5", "5\n", "５", "0x5", "1e1", "1_0"} {
			words := linesOf(t, x.ahead+"77"+x.behind)[0]
			i := slices.IndexFunc(words, func(w lex.Word) bool { return w.Text == "77" })
			words[i].Text = text
			if _, _, at, e := Parse([][]lex.Word{words}); at != len(x.ahead) || e != api.ErrRange {
				t.Errorf("%s%q%s: %d, %d", x.ahead, text, x.behind, at, e)
			}
		}
	}
}

// P12.1: ErrWell at each place where a well stands; whether a deck has it isn't asked.
func TestParseWells(t *testing.T) {
	for _, x := range []string{"transfer @ p.B2 5", "transfer p.B2 @ 5", "spread @ 5 p.B2", "spread p.B2 5 @", "spread p.B2 5 @ p.B2", "spread p.B2 5 p.B2 p.B2 @", "gather @ 5 p.B2", "gather p.B2 5 @ p.B2 p.B2", "gather p.B2 5 p.B2 @", "mix @ 5 2", "dilute 5 @ p.B2", "dilute 5 p.B2 @", "dilute 5 p.B2 @ p.B2"} {
		for _, good := range []string{"p.A1", "nowhere.H12", longest + ".D10", "p.B2"} {
			l, _, at, e := Parse(linesOf(t, strings.Replace(x, "@", good, 1)))
			w, _ := well.Parse(good)
			if at != 0 || e != api.OK || len(l) != 1 || !slices.Contains(l[0].W, w) {
				t.Errorf("%s, %s: %v, %d, %d", x, good, l, at, e)
			}
		}
		for _, bad := range []string{"p", "p.", ".A1", "p.A0", "p.A01", "p.A13", "p.I1", "p.a1", "P.A1", "p.A1.", "p.AA1", "5", "x", ".", "A1", longest + "q.A1", "p.A18446744073709551617"} {
			refuses(t, "use a\n"+strings.Replace(x, "@", "@"+bad, 1)+"\nuse\n", api.ErrWell)
		}
	}
	for _, bad := range []string{"", " p.A1", "p.A1 ", "p.A1\n", "p.A１"} {
		if _, _, at, e := Parse([][]lex.Word{{{At: 3, Text: "mix"}, {At: 9, Text: bad}, {At: 10, Text: "x"}, {At: 12, Text: "2"}}}); at != 9 || e != api.ErrWell {
			t.Errorf("mix %q: %d, %d", bad, at, e)
		}
	}
}

// P12.1: of several errors that of the first line; of one line ErrWord, ErrMany, then word by word.
func TestParseFirstError(t *testing.T) {
	for _, x := range []struct {
		s string
		e api.Errno
	}{
		{"transfer @x y z", api.ErrWell}, {"transfer p.A1 @y z", api.ErrWell}, {"transfer p.A1 p.A1 @z", api.ErrRange},
		{"spread @x y z", api.ErrWell}, {"spread p.A1 @y z", api.ErrRange}, {"spread p.A1 5 @z x", api.ErrWell},
		{"gather @x y z", api.ErrWell}, {"gather p.A1 @y z", api.ErrRange}, {"gather p.A1 5 p.A1 @z x", api.ErrWell},
		{"mix @x 0 0", api.ErrWell}, {"mix p.A1 @0 0", api.ErrRange}, {"mix p.A1 5 @0", api.ErrRange},
		{"dilute @x y z", api.ErrRange}, {"dilute 5 @y z", api.ErrWell}, {"dilute 5 p.A1 @z", api.ErrWell},
	} {
		for _, behind := range []string{"", "\nuse\n", "\nus\n", "\nuse A\n", "\nmix x x x\n"} {
			refuses(t, x.s+behind, x.e)
			refuses(t, plainText+x.s+behind, x.e)
		}
		first := "@" + strings.Replace(x.s, "@", "", 1)
		refuses(t, strings.Repeat("use a\n", maxSteps)+first, api.ErrMany)
		refuses(t, strings.Repeat("use a\n", maxSteps-1)+x.s, x.e)
		if strings.HasPrefix(x.s, "transfer") || strings.HasPrefix(x.s, "mix") {
			refuses(t, first+" x\nuse A\n", api.ErrWord)
		} else {
			refuses(t, x.s+" x\nuse A\n", x.e)
			refuses(t, first+strings.Repeat(" x", maxList)+"\nuse A\n", api.ErrMany)
		}
	}
}

var (
	nameForm   = regexp.MustCompile(`^[a-z][a-z0-9]{0,15}$`)
	numberForm = regexp.MustCompile(`^[1-9][0-9]{0,11}$`)
	wellForm   = regexp.MustCompile(`^([a-z][a-z0-9]{0,15})\.([A-H])([1-9]|1[0-2])$`)
)

// kinds are chapter 12's lines; a last star: once or more often.
var kinds = []string{"use NAME", "fresh OFTEN", "transfer WELL WELL V", "spread WELL V WELL*", "gather WELL V WELL*", "mix WELL V N", "dilute V WELL WELL*"}

// wantOf are what the words of a line of that many are, its first one among them; nil if no line is so.
func wantOf(first string, n int) []string {
	for _, k := range kinds {
		f := strings.Fields(k)
		if f[0] != first {
			continue
		}
		if last := len(f) - 1; strings.HasSuffix(f[last], "*") {
			f[last] = "WELL"
			for len(f) < n {
				f = append(f, "WELL")
			}
		}
		if len(f) == n {
			return f
		}
	}
	return nil
}

// wantLine is the error of a line that so many steps stand ahead of.
func wantLine(words []lex.Word, ahead int) (int, api.Errno) {
	f := wantOf(words[0].Text, len(words))
	if f == nil || f[1] == "OFTEN" && words[1].Text != "each" && words[1].Text != "once" {
		return words[0].At, api.ErrWord
	}
	count := 0
	for _, x := range f {
		if x == "WELL" {
			count++
		}
	}
	if ahead >= maxSteps || count > maxList {
		return words[0].At, api.ErrMany
	}
	for i, x := range f {
		text := words[i].Text
		v, _ := strconv.ParseInt(text, 10, 64)
		switch {
		case x == "NAME" && !nameForm.MatchString(text):
			return words[i].At, api.ErrName
		case x == "V" && (!numberForm.MatchString(text) || v > maxVolume):
			return words[i].At, api.ErrRange
		case x == "N" && (!numberForm.MatchString(text) || v > maxMix):
			return words[i].At, api.ErrRange
		case x == "WELL" && !wellForm.MatchString(text):
			return words[i].At, api.ErrWell
		}
	}
	return 0, api.OK
}

// wantStep is what a right line tells.
func wantStep(words []lex.Word) api.Step {
	s := api.Step{Kind: slices.Index([]string{"use", "fresh", "transfer", "spread", "gather", "mix", "dilute"}, words[0].Text)}
	for i, x := range wantOf(words[0].Text, len(words)) {
		text := words[i].Text
		switch x {
		case "NAME":
			s.Name = text
		case "OFTEN":
			s.N = strings.Count(text, "each")
		case "V":
			s.V, _ = strconv.ParseInt(text, 10, 64)
		case "N":
			s.N, _ = strconv.Atoi(text)
		case "WELL":
			m := wellForm.FindStringSubmatch(text)
			col, _ := strconv.Atoi(m[3])
			s.W = append(s.W, wellAt(m[1], strings.Index("ABCDEFGH", m[2]), col-1))
		}
	}
	return s
}

// wantParse is chapter 12 in other words: each line is held against the chapter's list of lines.
func wantParse(l [][]lex.Word) ([]api.Step, [][]int, int, api.Errno) {
	var steps []api.Step
	var places [][]int
	for _, words := range l {
		if len(words) == 0 {
			continue
		}
		if at, e := wantLine(words, len(steps)); e != api.OK {
			return nil, nil, at, e
		}
		var at []int
		for _, w := range words {
			at = append(at, w.At)
		}
		steps, places = append(steps, wantStep(words)), append(places, at)
	}
	return steps, places, 0, api.OK
}

// checkParse answers the error.
func checkParse(t *testing.T, l [][]lex.Word) api.Errno {
	t.Helper()
	steps, places, at, e := Parse(l)
	wantSteps, wantPlaces, wantAt, wantE := wantParse(l)
	if !same(steps, wantSteps) || !placesSame(places, wantPlaces) || at != wantAt || e != wantE {
		t.Errorf("Parse(%v): %v, %v, %d, %d, not %v, %v, %d, %d", l, steps, places, at, e, wantSteps, wantPlaces, wantAt, wantE)
	}
	if e == api.OK && !Right(steps) {
		t.Errorf("Parse(%v): %v, which isn't Right", l, steps)
	}
	return e
}

func pick[T any](r *rand.Rand, of ...T) T { return of[r.Intn(len(of))] }

func pickWell(r *rand.Rand) api.Well {
	return wellAt(pick(r, "p", "q", "plate9", longest, "use", "each"), r.Intn(8), r.Intn(12))
}

func pickWells(r *rand.Rand, n int) []api.Well {
	var w []api.Well
	for range n {
		w = append(w, pickWell(r))
	}
	return w
}

// pickNumber is one of the bounds from 1 on, or anything between them.
func pickNumber(r *rand.Rand, most int64) int64 { return pick(r, 1, most, 1+r.Int63n(most)) }

// pickStep is one that a line can say.
func pickStep(r *rand.Rand) api.Step {
	s := api.Step{Kind: r.Intn(7)}
	switch s.Kind {
	case api.Use:
		s.Name = pick(r, "a", "small", "use", "fresh", longest)
		return s
	case api.Fresh:
		s.N = r.Intn(2)
		return s
	case api.Transfer:
		s.W = pickWells(r, 2)
	case api.Mix:
		s.W, s.N = pickWells(r, 1), int(pickNumber(r, maxMix))
	default:
		s.W = pickWells(r, pick(r, 2, 3, 4, 2+r.Intn(10), maxList-1, maxList))
	}
	s.V = pickNumber(r, maxVolume)
	return s
}

func pickSteps(r *rand.Rand) []api.Step {
	var l []api.Step
	for range r.Intn(12) {
		l = append(l, pickStep(r))
	}
	return l
}

// wantPrint is the text of any steps, Right or not.
func wantPrint(l []api.Step) string {
	var all strings.Builder
	for _, s := range l {
		var f []string
		if s.Kind >= 0 && s.Kind < len(kinds) {
			f = strings.Fields(kinds[s.Kind])
		}
		at := 0
		next := func() string {
			if at == len(s.W) {
				return "none"
			}
			w := s.W[at]
			at++
			return w.Ware + "." + string(rune('A'+w.Row)) + strconv.Itoa(w.Col+1)
		}
		for i, x := range f {
			switch x {
			case "NAME":
				f[i] = s.Name
			case "OFTEN":
				f[i] = map[int]string{0: "once", 1: "each"}[s.N]
			case "V":
				f[i] = strconv.FormatInt(s.V, 10)
			case "N":
				f[i] = strconv.Itoa(s.N)
			case "WELL":
				f[i] = next()
			case "WELL*":
				f[i] = next()
				for at < len(s.W) {
					f = append(f, next())
				}
			}
		}
		all.WriteString(strings.Join(f, " ") + "\n")
	}
	return all.String()
}

// spoil changes a few words of some lines.
func spoil(r *rand.Rand, l [][]lex.Word) [][]lex.Word {
	odd := []string{"use", "fresh", "transfer", "spread", "gather", "mix", "dilute", "each", "once", "0", "1", "20", "21", "20000000", "20000001", "05", "x", "X", "p.A1", "p.A0", "p.H12", "p.I1", ".", "", "a", "ware"}
	for range 1 + r.Intn(3) {
		if len(l) == 0 {
			break
		}
		i := r.Intn(len(l))
		w := slices.Clone(l[i])
		if len(w) == 0 {
			continue
		}
		k := r.Intn(len(w))
		word := lex.Word{At: w[k].At, Text: pick(r, odd...)}
		switch r.Intn(5) {
		case 0:
			w = slices.Delete(w, k, k+1)
		case 1:
			w = slices.Insert(w, k, word)
		case 2:
			w = append(w, word)
		default:
			w[k] = word
		}
		l[i] = w
	}
	return l
}

// P12.1: lines of any words, right ones and wrong ones.
func TestParseOfMany(t *testing.T) {
	r := rand.New(rand.NewSource(1))
	found := map[api.Errno]int{}
	for range 6000 {
		l := cut(wantPrint(pickSteps(r)))
		if r.Intn(4) > 0 {
			l = spoil(r, l)
		}
		found[checkParse(t, l)]++
	}
	for _, e := range []api.Errno{api.OK, api.ErrWord, api.ErrName, api.ErrRange, api.ErrWell, api.ErrMany} {
		if found[e] < 50 {
			t.Errorf("%d found %d times only", e, found[e])
		}
	}
}

// P12.1: all lines of a few words.
func TestParseOfShortLines(t *testing.T) {
	some := []string{"use", "fresh", "transfer", "spread", "gather", "mix", "dilute", "each", "once", "a", "1", "21", "p.A1"}
	var all func(w []lex.Word, more int)
	all = func(w []lex.Word, more int) {
		checkParse(t, [][]lex.Word{w})
		if more == 0 {
			return
		}
		for _, s := range some {
			all(append(slices.Clone(w), lex.Word{At: 10*len(w) + 5, Text: s}), more-1)
		}
	}
	all(nil, 5)
}

// tells holds that steps are Right, or not, and what that means of Print and Parse.
func tells(t *testing.T, l []api.Step, right bool) {
	t.Helper()
	if got := Right(l); got != right {
		t.Errorf("Right(%v): %v", l, got)
	}
	s := Print(l)
	if !right {
		if s != "" {
			t.Errorf("Print(%v): %q", l, s)
		}
		return
	}
	if s != wantPrint(l) {
		t.Errorf("Print(%v): %q", l, s)
	}
	if len(l) == 0 {
		return
	}
	got, places, at, e := Parse(linesOf(t, s))
	if !same(got, l) || len(places) != len(l) || at != 0 || e != api.OK {
		t.Errorf("Parse of Print(%v): %v, %v, %d, %d", l, got, places, at, e)
	}
}

// P12.2
func TestPrint(t *testing.T) {
	if got := Print(plain()); got != plainText {
		t.Errorf("Print: %q", got)
	}
	tells(t, plain(), true)
	for i := range plain() {
		tells(t, plain()[i:i+1], true)
		tells(t, plain()[i:], true)
	}
	if got := Print([]api.Step{{Kind: api.Mix, W: wells(wellAt("p", 0, 0)), V: 100, N: 3}}); got != "mix p.A1 100 3\n" {
		t.Errorf("Print: %q", got)
	}
	for _, none := range [][]api.Step{nil, {}} {
		if !Right(none) || Print(none) != "" {
			t.Errorf("of nothing: %v, %q", Right(none), Print(none))
		}
	}
}

// P12.2: one step that isn't right, wherever it stands, and all is refused.
func TestRightOfEachStep(t *testing.T) {
	for i := range plain() {
		for _, bad := range []api.Step{{}, {Kind: 7}, {Kind: -1}, {Kind: api.Fresh, N: 2}, {Kind: api.Mix}} {
			tells(t, slices.Insert(plain(), i, bad), false)
			l := plain()
			l[i] = bad
			tells(t, l, false)
		}
		tells(t, slices.Insert(plain(), i, api.Step{Kind: api.Fresh}), true)
	}
}

// example is a step of that kind that is Right, new each time.
func example(kind int) api.Step {
	s := api.Step{Kind: kind, V: 5}
	p, q := wellAt("p", 1, 2), wellAt("q", 3, 4)
	switch kind {
	case api.Use:
		s.Name, s.V = "small", 0
	case api.Fresh:
		s.V = 0
	case api.Transfer:
		s.W = wells(p, q)
	case api.Mix:
		s.W, s.N = wells(p), 2
	default:
		s.W = wells(p, q, p)
	}
	return s
}

// bounds of V, of N, and of how many wells there are.
type bounds struct{ leastV, mostV, leastN, mostN, least, most int64 }

func boundsOf(kind int) bounds {
	switch kind {
	case api.Use:
		return bounds{}
	case api.Fresh:
		return bounds{mostN: 1}
	case api.Transfer:
		return bounds{leastV: 1, mostV: maxVolume, least: 2, most: 2}
	case api.Mix:
		return bounds{leastV: 1, mostV: maxVolume, leastN: 1, mostN: maxMix, least: 1, most: 1}
	}
	return bounds{leastV: 1, mostV: maxVolume, least: 2, most: maxList}
}

// P12.2: each field of each kind at its bounds and past them, fields that a line doesn't tell among them.
func TestRightOfEachField(t *testing.T) {
	odd := []int64{math.MinInt64, math.MinInt32, -256, -20, -2, -1, 0, 1, 2, 3, 19, 20, 21, 200, 256, 257, maxVolume - 1, maxVolume, maxVolume + 1, 1 << 32, 1<<32 + 1, math.MaxInt64}
	for kind := range 7 {
		b := boundsOf(kind)
		for _, v := range odd {
			s := example(kind)
			s.V = v
			tells(t, []api.Step{s}, v >= b.leastV && v <= b.mostV)
			s = example(kind)
			s.N = int(v)
			tells(t, []api.Step{s}, v >= b.leastN && v <= b.mostN)
		}
		for _, n := range []int64{0, 1, 2, 3, 4, 94, 95, 96, 97, 98, 99, 1000} {
			s := example(kind)
			s.W = slices.Repeat(wells(wellAt("p", 0, 0)), int(n))
			tells(t, []api.Step{s}, n >= b.least && n <= b.most)
		}
		for _, name := range []string{"", "a", "small", "A", ".", longest, longest + "q", "a b", "9", "a\n", "é", "\xff"} {
			s := example(kind)
			s.Name = name
			tells(t, []api.Step{s}, kind == api.Use && nameForm.MatchString(name) || kind != api.Use && name == "")
		}
	}
	for _, kind := range []int{math.MinInt, -256, -1, 7, 8, 256, 257, 1 << 32, 1<<32 + 2, math.MaxInt} {
		for like := range 7 {
			s := example(like)
			s.Kind = kind
			tells(t, []api.Step{s}, false)
		}
		tells(t, []api.Step{{Kind: kind}}, false)
	}
}

// P12.2: a step that is right for one kind, told as another.
func TestRightOfOtherKinds(t *testing.T) {
	for like := range 7 {
		for kind := range 7 {
			s := example(like)
			s.Kind = kind
			lists := func(k int) bool { return k == api.Spread || k == api.Gather || k == api.Dilute }
			tells(t, []api.Step{s}, kind == like || lists(kind) && (lists(like) || like == api.Transfer))
		}
	}
}

// P12.2: each well of a step.
func TestRightOfWells(t *testing.T) {
	for kind := api.Transfer; kind <= api.Dilute; kind++ {
		s := example(kind)
		for i := range s.W {
			for _, w := range []api.Well{wellAt("a", 0, 0), wellAt("nowhere", 7, 11), wellAt(longest, 7, 0)} {
				s := example(kind)
				s.W[i] = w
				tells(t, []api.Step{s}, true)
			}
			for _, w := range []api.Well{{}, wellAt("", 1, 1), wellAt("P", 1, 1), wellAt("p.A1", 1, 1), wellAt("p ", 1, 1), wellAt(longest+"q", 1, 1), wellAt("p", -1, 1), wellAt("p", 8, 1), wellAt("p", 1, -1), wellAt("p", 1, 12), wellAt("p", 256, 1), wellAt("p", 1<<32, 1), wellAt("p", 1, 1<<32), wellAt("p", math.MinInt, math.MaxInt)} {
				s := example(kind)
				s.W[i] = w
				tells(t, []api.Step{s}, false)
			}
		}
	}
}

// P12.2: at most so many steps.
func TestRightOfTheMost(t *testing.T) {
	for _, s := range plain() {
		tells(t, slices.Repeat([]api.Step{s}, maxSteps-1), true)
		tells(t, slices.Repeat([]api.Step{s}, maxSteps), true)
		tells(t, slices.Repeat([]api.Step{s}, maxSteps+1), false)
		tells(t, slices.Repeat([]api.Step{s}, 20*maxSteps), false)
	}
}

// P12.2: the greatest steps are Right, too; lex takes the text of fewer.
func TestRightOfTheGreatest(t *testing.T) {
	s := api.Step{Kind: api.Spread, W: slices.Repeat(wells(wellAt(longest, 7, 11)), maxList), V: maxVolume}
	one := wantPrint([]api.Step{s})
	fits := slices.Repeat([]api.Step{s}, api.MaxText/len(one))
	tells(t, fits, true)
	all := slices.Repeat([]api.Step{s}, maxSteps)
	text := Print(all)
	if !Right(all) || text != strings.Repeat(one, maxSteps) {
		t.Errorf("the greatest: %v, %d bytes", Right(all), len(text))
	}
	if got, _, at, e := Parse(cut(text)); !same(got, all) || at != 0 || e != api.OK {
		t.Errorf("the greatest, there and back: %d steps, %d, %d", len(got), at, e)
	}
}

// bend changes one field of a step, mostly to what it may not be.
func bend(r *rand.Rand, l []api.Step) []api.Step {
	l = copied(l)
	if len(l) == 0 {
		return l
	}
	s := &l[r.Intn(len(l))]
	odd := pick[int64](r, -1, 0, 1, 2, 8, 12, 20, 21, 20000000, 20000001, math.MinInt64, math.MaxInt64)
	switch r.Intn(7) {
	case 0:
		s.Kind = r.Intn(9) - 1
	case 1:
		s.Name = pick(r, "", "a", "A", "p.A", longest+"q")
	case 2:
		s.V = odd
	case 3:
		s.N = int(odd)
	case 4:
		s.W = append(s.W, pickWell(r))
	case 5:
		if len(s.W) > 0 {
			s.W = s.W[:len(s.W)-1]
		}
	case 6:
		if len(s.W) > 0 {
			w := &s.W[r.Intn(len(s.W))]
			w.Ware = pick(r, w.Ware, "", "P", "q1")
			*pick(r, &w.Row, &w.Col) = pick(r, r.Intn(13)-1, int(odd))
		}
	}
	return l
}

// P12.2: steps are Right just if their text, printed without asking, tells them.
func TestRightOfMany(t *testing.T) {
	r := rand.New(rand.NewSource(2))
	found := map[bool]int{}
	for range 4000 {
		l := pickSteps(r)
		tells(t, l, true)
		l = bend(r, l)
		got, _, _, e := wantParse(cut(wantPrint(l)))
		right := e == api.OK && same(got, l)
		found[right]++
		tells(t, l, right)
	}
	if found[true] < 500 || found[false] < 500 {
		t.Errorf("too few of one kind were tried: %v", found)
	}
}

// loose writes lines with other blanks, with comments and lines of nothing between them.
func loose(r *rand.Rand, s string) string {
	var b strings.Builder
	for _, c := range s {
		switch c {
		case ' ':
			b.WriteString(pick(r, " ", "\t", "  ", " \t "))
		case '\n':
			b.WriteString(pick(r, "\n", " \n", "# use a\n", "\n\n\t\n", " # \xff\n  "))
		default:
			b.WriteRune(c)
		}
	}
	return b.String()
}

// P12.3: what is said, in whatever blanks, is told by Print so that it can be read again, and each word is found where it stands.
func TestWhatIsSaidCanBeReadAgain(t *testing.T) {
	r := rand.New(rand.NewSource(3))
	for range 1500 {
		l := pickSteps(r)
		tidy := wantPrint(l)
		s := loose(r, tidy)
		got, places, at, e := Parse(linesOf(t, s))
		if !same(got, l) || at != 0 || e != api.OK || Print(got) != tidy {
			t.Fatalf("Parse(%q): %v, %d, %d", s, got, at, e)
		}
		for i, line := range cut(tidy) {
			for k, w := range line {
				if !strings.HasPrefix(s[places[i][k]:], w.Text) {
					t.Fatalf("Parse(%q): step %d: %v", s, i, places[i])
				}
			}
		}
		again, _, _, e := Parse(linesOf(t, Print(got)))
		if !same(again, l) || e != api.OK {
			t.Fatalf("Print(%v), read again: %v, %d", got, again, e)
		}
	}
}

// P12.1, and DOC.md's third rule: lines aren't changed, those behind them count for nothing, and none is kept.
func TestLinesAreLeftAlone(t *testing.T) {
	whole := linesOf(t, plainText+"use\n")
	before := make([][]lex.Word, len(whole))
	spare := lex.Word{At: 1, Text: "spare"}
	for i := range whole {
		whole[i] = append(slices.Clone(whole[i]), spare)[:len(whole[i])]
		before[i] = slices.Clone(whole[i])
	}
	l, places, _, e := Parse(whole[:len(whole)-1])
	if e != api.OK || !slices.EqualFunc(whole, before, slices.Equal[[]lex.Word]) {
		t.Fatalf("%v, %d", whole, e)
	}
	_, wantPlaces, _, _ := wantParse(before[:len(before)-1])
	for i, line := range whole {
		if line[:len(line)+1][len(line)] != spare {
			t.Errorf("behind line %d: %v", i, line[:len(line)+1])
		}
		clear(line)
		whole[i] = nil
	}
	if !same(l, plain()) || !placesSame(places, wantPlaces) {
		t.Errorf("the answer changes with the lines: %v, %v", l, places)
	}
}

// P12.1, and DOC.md's third rule: what is answered is new, no list of it behind another.
func TestAnswersAreNew(t *testing.T) {
	lines := linesOf(t, plainText)
	first, places, _, _ := Parse(lines)
	second, again, _, _ := Parse(lines)
	wantPlaces := [][]int{}
	for i := range places {
		wantPlaces = append(wantPlaces, slices.Clone(places[i]))
	}
	for i := range first {
		_ = append(first[i].W, wellAt("x", 1, 1), wellAt("y", 2, 2))
		_ = append(places[i], -1, -2)
	}
	if !same(first, plain()) || !placesSame(places, wantPlaces) {
		t.Errorf("a list grew into another: %v, %v", first, places)
	}
	for i := range first {
		clear(first[i].W)
		clear(places[i])
	}
	clear(first)
	clear(places)
	if !same(second, plain()) || !placesSame(again, wantPlaces) {
		t.Errorf("two answers share: %v, %v", second, again)
	}
}

// P12.2, and DOC.md's third rule: steps that are asked or printed stay as they are, as does the room behind their wells.
func TestStepsAreLeftAlone(t *testing.T) {
	r := rand.New(rand.NewSource(4))
	spare := wellAt("spare", 1, 1)
	for range 2000 {
		l := bend(r, pickSteps(r))
		for i := range l {
			l[i].W = append(slices.Clone(l[i].W), spare)[:len(l[i].W)]
		}
		before := copied(l)
		Right(l)
		Print(l)
		if !same(l, before) {
			t.Errorf("%v was changed: %v", before, l)
		}
		for _, s := range l {
			if s.W[:len(s.W)+1][len(s.W)] != spare {
				t.Errorf("behind the wells of %v: %v", s, s.W[:len(s.W)+1])
			}
		}
	}
}

// P12.1, P12.2, and DOC.md's eighth rule: the answers hang on the arguments alone, asked again, by many at once.
func TestSameAgain(t *testing.T) {
	r := rand.New(rand.NewSource(5))
	for range 200 {
		l := cut(wantPrint(pickSteps(r)))
		if r.Intn(2) == 0 {
			l = spoil(r, l)
		}
		steps, places, at, e := Parse(l)
		text := Print(steps)
		var all sync.WaitGroup
		for range 4 {
			all.Go(func() {
				s, p, a, errno := Parse(l)
				if !same(s, steps) || !placesSame(p, places) || a != at || errno != e || Print(s) != text || Print(steps) != text || !Right(steps) {
					t.Errorf("%v isn't the same again", l)
				}
			})
		}
		all.Wait()
	}
}

// P12.1, P12.2: as many lines and words as may be handed in, and more.
func TestOfGreatLists(t *testing.T) {
	use := []lex.Word{{At: 5, Text: "use"}, {At: 9, Text: "a"}}
	if _, _, at, e := Parse(slices.Repeat([][]lex.Word{use}, 300000)); at != 5 || e != api.ErrMany {
		t.Errorf("many lines: %d, %d", at, e)
	}
	if _, _, at, e := Parse([][]lex.Word{slices.Repeat(use, 300000)}); at != 5 || e != api.ErrWord {
		t.Errorf("many words: %d, %d", at, e)
	}
	for _, first := range []string{"spread", "gather", "dilute"} {
		long := append([]lex.Word{{At: 7, Text: first}}, slices.Repeat(use, 300000)...)
		if _, _, at, e := Parse([][]lex.Word{long}); at != 7 || e != api.ErrMany {
			t.Errorf("%s, many words: %d, %d", first, at, e)
		}
	}
	long := []api.Step{{Kind: api.Dilute, V: 5, W: slices.Repeat(wells(wellAt("p", 0, 0)), 300000)}}
	if Right(long) || Print(long) != "" || Right(slices.Repeat(plain(), 100000)) {
		t.Error("too great a list is Right")
	}
}

// The limits that the tests count with are package api's.
func TestLimits(t *testing.T) {
	limits := []int64{api.MaxSteps, api.MaxList, api.MaxVolume, api.MaxMix, api.MaxName, api.MaxRows, api.MaxCols}
	if !slices.Equal(limits, []int64{maxSteps, maxList, maxVolume, maxMix, int64(len(longest)), 8, 12}) {
		t.Errorf("other limits: %v", limits)
	}
	errnos := []api.Errno{api.ErrWord, api.ErrName, api.ErrRange, api.ErrWell, api.ErrMany}
	if !slices.Equal(errnos, []api.Errno{24, 25, 20, 26, 27}) {
		t.Errorf("other errors: %v", errnos)
	}
}

// FuzzParse holds any words against chapter 12 in other words.
func FuzzParse(f *testing.F) {
	for _, s := range []string{"", plainText, "mix p.A1 100 3\n", "fresh now\n", "dilute 5 p.A1\n", "use A\nuse\n"} {
		f.Add(s)
	}
	f.Fuzz(func(t *testing.T, s string) { checkParse(t, cut(s)) })
}
