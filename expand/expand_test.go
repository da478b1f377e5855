package expand

import (
	"fmt"
	"math"
	"math/rand"
	"slices"
	"strconv"
	"strings"
	"sync"
	"testing"

	"dipper/api"
	"dipper/deck"
	"dipper/lex"
	"dipper/proto"
	"dipper/ware"
)

const (
	maxOps    = 1000
	maxSteps  = 200
	maxList   = 96
	maxMix    = 20
	maxVolume = 20000000
	longest   = "abcdefghijklmnop"
)

// deckText is a deck of wares of several sizes and of tips, one of them named as a ware is, two of one shape.
const deckText = `ware p 2 3 100
box 10000 8000 8000 8000 8000
ware trough 1 1 0
round 2000 0 4000
box 20000 9000 9000 9000 9000
ware full 8 12 0
box 10000 8000 8000 8000 8000
ware ` + longest + ` 3 2 5
round 1000 5 5
tip small 100000 20000 10
box 50000 1000 1000 1000 1000
tip big 1000000 30000 100
box 50000 1000 1000 1000 1000
tip p 1 1 10000
round 100 1 1
tip ` + longest + ` 20000000 60000 0
round 200 1 2
fill p.A1 300000
fill trough.A1 900000
`

func deckOf(t testing.TB, s string) api.Deck {
	t.Helper()
	l, _, e := lex.Lines([]byte(s))
	d, _, _, f := ware.Parse(l)
	if e != api.OK || f != api.OK {
		t.Fatalf("ware.Parse(%.80q): %d, %d", s, e, f)
	}
	return d
}

func board(t testing.TB) *deck.Board { return boardOf(t, deckText) }

func boardOf(t testing.TB, s string) *deck.Board {
	t.Helper()
	b, e := deck.New(deckOf(t, s))
	if e != api.OK {
		t.Fatalf("deck.New(%.80q): %d", s, e)
	}
	return b
}

// stepsOf are the steps that a text tells.
func stepsOf(t testing.TB, s string) []api.Step {
	t.Helper()
	l, _, e := lex.Lines([]byte(s))
	steps, _, _, f := proto.Parse(l)
	if e != api.OK || f != api.OK {
		t.Fatalf("proto.Parse(%.80q): %d, %d", s, e, f)
	}
	return steps
}

func wellAt(name string, row, col int) api.Well { return api.Well{Ware: name, Row: row, Col: col} }

func wells(w ...api.Well) []api.Well { return w }

// said is an Op, its step ahead of it, with a star if it is New.
func said(op api.Op, of int) string {
	place := func(w api.Well) string { return w.Ware + "." + string(rune('A'+w.Row)) + strconv.Itoa(w.Col+1) }
	s := fmt.Sprintf("%d %s %d %s>%s", of, op.Tip, op.V, place(op.Src), place(op.Dst))
	if op.New {
		s += "*"
	}
	return s
}

// does holds that the steps of a text come to these Ops, as said tells them.
func does(t *testing.T, s string, want ...string) {
	t.Helper()
	l, of, at, e := Ops(board(t), stepsOf(t, s))
	if at != 0 || e != api.OK || len(l) != len(of) {
		t.Errorf("Ops(%.200q): %d Ops of %d, %d, %d", s, len(l), len(of), at, e)
		return
	}
	var got []string
	for i := range l {
		got = append(got, said(l[i], of[i]))
	}
	if !slices.Equal(got, want) {
		t.Errorf("Ops(%.200q): %q, not %q", s, got, want)
	}
}

// fails holds that the steps end with that error at that step, all else being zero.
func fails(t *testing.T, b *deck.Board, steps []api.Step, wantAt int, want api.Errno) {
	t.Helper()
	if l, of, at, e := Ops(b, steps); len(l) != 0 || len(of) != 0 || at != wantAt || e != want {
		t.Errorf("Ops(%.200q): %d Ops of %d, %d, %d, not %d, %d", fmt.Sprint(steps), len(l), len(of), at, e, wantAt, want)
	}
}

// refuses is fails of a text in which @ stands ahead of the line that has the error.
func refuses(t *testing.T, s string, want api.Errno) {
	t.Helper()
	ahead, behind, found := strings.Cut(s, "@")
	if !found {
		t.Fatalf("%q says no step", s)
	}
	fails(t, board(t), stepsOf(t, ahead+behind), strings.Count(ahead, "\n"), want)
}

// P13.1
func TestOpsOfEachKind(t *testing.T) {
	does(t, "use small\ntransfer p.A1 p.B2 500\n", "1 small 500 p.A1>p.B2*")
	does(t, "use small\ntransfer full.H12 trough.A1 20000000\n", "1 small 20000000 full.H12>trough.A1*")
	does(t, "use small\nspread p.A1 20 p.A2 p.B3 full.C4\n", "1 small 20 p.A1>p.A2*", "1 small 20 p.A1>p.B3", "1 small 20 p.A1>full.C4")
	does(t, "use big\nspread p.A1 1 p.A2\n", "1 big 1 p.A1>p.A2*")
	does(t, "use big\ngather p.A1 20 p.A2 p.B3 full.C4\n", "1 big 20 p.A2>p.A1*", "1 big 20 p.B3>p.A1", "1 big 20 full.C4>p.A1")
	does(t, "use big\ngather p.A1 1 p.A2\n", "1 big 1 p.A2>p.A1*")
	does(t, "use p\nmix p.A1 7 1\n", "1 p 7 p.A1>p.A1*")
	does(t, "use p\nmix p.A1 7 3\n", "1 p 7 p.A1>p.A1*", "1 p 7 p.A1>p.A1", "1 p 7 p.A1>p.A1")
	does(t, "use big\ndilute 9 p.A1 p.A2\n", "1 big 9 p.A1>p.A2*")
	does(t, "use big\ndilute 9 p.A1 p.A2 p.A3 p.B1\n", "1 big 9 p.A1>p.A2*", "1 big 9 p.A2>p.A3", "1 big 9 p.A3>p.B1")
}

// P13.1: others are those at other places of the list, be they the same wells or not.
func TestOpsOfWellsThatComeTwice(t *testing.T) {
	does(t, "use big\ntransfer p.A1 p.A1 5\n", "1 big 5 p.A1>p.A1*")
	does(t, "use big\nspread p.A1 5 p.A1 p.A2 p.A1 p.A2\n", "1 big 5 p.A1>p.A1*", "1 big 5 p.A1>p.A2", "1 big 5 p.A1>p.A1", "1 big 5 p.A1>p.A2")
	does(t, "use big\ngather p.A1 5 p.A1 p.A2 p.A1\n", "1 big 5 p.A1>p.A1*", "1 big 5 p.A2>p.A1", "1 big 5 p.A1>p.A1")
	does(t, "use big\ndilute 5 p.A1 p.A1 p.A2 p.A1\n", "1 big 5 p.A1>p.A1*", "1 big 5 p.A1>p.A2", "1 big 5 p.A2>p.A1")
}

// P13.1: as many wells of a step, as often, as there may be.
func TestOpsOfTheLongestSteps(t *testing.T) {
	var all []string
	for i := range maxList {
		all = append(all, "full."+string(rune('A'+i/12))+strconv.Itoa(i%12+1))
	}
	var spread, gather, dilute, mix []string
	for i, w := range all[1:] {
		spread = append(spread, "1 big 5 full.A1>"+w)
		gather = append(gather, "1 big 5 "+w+">full.A1")
		dilute = append(dilute, "1 big 5 "+all[i]+">"+w)
	}
	for range maxMix {
		mix = append(mix, "1 big 5 full.A1>full.A1")
	}
	others := strings.Join(all[1:], " ")
	for _, x := range []struct {
		line string
		want []string
	}{{"spread full.A1 5 " + others, spread}, {"gather full.A1 5 " + others, gather}, {"dilute 5 full.A1 " + others, dilute}, {"mix full.A1 5 20", mix}} {
		does(t, "use big\nfresh each\n"+x.line+"\n", starred(x.want, "1 ", "2 ", len(x.want))...)
		does(t, "use big\n"+x.line+"\n", starred(x.want, "", "", 1)...)
	}
}

// starred are copies of l, the first n of them with a star, from ahead of each being put to.
func starred(l []string, from, to string, n int) []string {
	var c []string
	for i, s := range l {
		s = to + strings.TrimPrefix(s, from)
		if i < n {
			s += "*"
		}
		c = append(c, s)
	}
	return c
}

// P13.1: no Ops come of nothing, of tips, of how often they are new.
func TestOpsOfNothing(t *testing.T) {
	for _, s := range []string{"", "use small\n", "fresh each\n", "fresh once\n", "use small\nfresh each\nuse big\nfresh once\nuse p\n", strings.Repeat("use small\nfresh each\n", maxSteps/2)} {
		does(t, s)
	}
	b := board(t)
	for _, none := range [][]api.Step{nil, {}} {
		if l, of, at, e := Ops(b, none); len(l) != 0 || len(of) != 0 || at != 0 || e != api.OK {
			t.Errorf("Ops of nothing: %v, %v, %d, %d", l, of, at, e)
		}
	}
	none := boardOf(t, "")
	if l, of, at, e := Ops(none, stepsOf(t, "fresh each\n")); len(l) != 0 || len(of) != 0 || at != 0 || e != api.OK {
		t.Errorf("Ops of a deck of nothing: %v, %v, %d, %d", l, of, at, e)
	}
}

// P13.1: each Op is told the number of its own step, steps that come to none being counted too.
func TestNumbersOfSteps(t *testing.T) {
	does(t, "fresh once\nuse small\nmix p.A1 5 2\nuse small\nfresh once\nspread p.A1 6 p.A2 p.A3\ntransfer p.A1 p.A2 7\nfresh once\n",
		"2 small 5 p.A1>p.A1*", "2 small 5 p.A1>p.A1", "5 small 6 p.A1>p.A2", "5 small 6 p.A1>p.A3", "6 small 7 p.A1>p.A2")
	last := strings.Repeat("use small\n", maxSteps-1) + "mix p.A1 5 2\n"
	does(t, last, "199 small 5 p.A1>p.A1*", "199 small 5 p.A1>p.A1")
}

// P13.1: an Op is by the tip that was used last.
func TestTipFromThenOn(t *testing.T) {
	does(t, "use small\nuse big\nmix p.A1 5 1\nmix p.A1 5 1\nuse small\nmix p.A1 5 1\nuse p\nuse "+longest+"\nmix p.A1 5 1\n",
		"2 big 5 p.A1>p.A1*", "3 big 5 p.A1>p.A1", "5 small 5 p.A1>p.A1*", "8 "+longest+" 5 p.A1>p.A1*")
}

// P13.1: New is the first one, and the first one by another tip, whatever was used between without an Op.
func TestNewByTips(t *testing.T) {
	does(t, "use small\nmix p.A1 5 1\nuse small\nmix p.A1 5 1\n", "1 small 5 p.A1>p.A1*", "3 small 5 p.A1>p.A1")
	does(t, "use small\nmix p.A1 5 1\nuse big\nuse small\nmix p.A1 5 1\n", "1 small 5 p.A1>p.A1*", "4 small 5 p.A1>p.A1")
	does(t, "use small\nmix p.A1 5 2\nuse big\nmix p.A1 5 2\nuse small\nmix p.A1 5 2\n",
		"1 small 5 p.A1>p.A1*", "1 small 5 p.A1>p.A1", "3 big 5 p.A1>p.A1*", "3 big 5 p.A1>p.A1", "5 small 5 p.A1>p.A1*", "5 small 5 p.A1>p.A1")
	does(t, "use small\nuse big\nuse small\nmix p.A1 5 1\n", "3 small 5 p.A1>p.A1*")
}

// P13.1: while Fresh's N is 1, each one is New; behind that again only those by another tip.
func TestNewByFresh(t *testing.T) {
	does(t, "use small\nfresh each\nspread p.A1 5 p.A2 p.A3\nmix p.A1 5 2\nfresh once\nmix p.A1 5 2\n",
		"2 small 5 p.A1>p.A2*", "2 small 5 p.A1>p.A3*", "3 small 5 p.A1>p.A1*", "3 small 5 p.A1>p.A1*", "5 small 5 p.A1>p.A1", "5 small 5 p.A1>p.A1")
	does(t, "fresh each\nuse small\nmix p.A1 5 2\n", "2 small 5 p.A1>p.A1*", "2 small 5 p.A1>p.A1*")
	does(t, "fresh each\nuse small\nfresh once\nmix p.A1 5 2\n", "3 small 5 p.A1>p.A1*", "3 small 5 p.A1>p.A1")
	does(t, "use small\nmix p.A1 5 1\nfresh each\nfresh once\nmix p.A1 5 1\n", "1 small 5 p.A1>p.A1*", "4 small 5 p.A1>p.A1")
	does(t, "use small\nmix p.A1 5 1\nfresh each\nmix p.A1 5 1\nfresh each\nmix p.A1 5 1\n", "1 small 5 p.A1>p.A1*", "3 small 5 p.A1>p.A1*", "5 small 5 p.A1>p.A1*")
	does(t, "fresh each\nuse small\nmix p.A1 5 1\nfresh once\nuse big\nmix p.A1 5 2\nuse big\nmix p.A1 5 1\n",
		"2 small 5 p.A1>p.A1*", "5 big 5 p.A1>p.A1*", "5 big 5 p.A1>p.A1", "7 big 5 p.A1>p.A1")
}

// P13.1: ErrTip of a Use of a tip that the deck hasn't.
func TestNoSuchTip(t *testing.T) {
	for _, name := range []string{"none", "smal", "small1", "bi", "bigg", "trough", "full", "q", longest[:15], "use", "a1"} {
		refuses(t, "@use "+name+"\n", api.ErrTip)
		refuses(t, "use small\nmix p.A1 5 2\n@use "+name+"\n", api.ErrTip)
		refuses(t, "fresh each\n@use "+name+"\nuse big\nmix none.A1 5 2\n", api.ErrTip)
	}
	for _, name := range []string{"small", "big", "p", longest} {
		does(t, "use "+name+"\nmix p.A1 5 1\n", "1 "+name+" 5 p.A1>p.A1*")
		fails(t, boardOf(t, ""), stepsOf(t, "fresh once\nuse "+name+"\n"), 1, api.ErrTip)
	}
}

// P13.1: ErrTip of each kind of step that no Use stands ahead of.
func TestNoTipYet(t *testing.T) {
	for _, line := range []string{"transfer p.A1 p.A2 5", "spread p.A1 5 p.A2", "gather p.A1 5 p.A2", "mix p.A1 5 2", "dilute 5 p.A1 p.A2"} {
		refuses(t, "@"+line+"\n", api.ErrTip)
		refuses(t, "fresh each\nfresh once\n@"+line+"\nuse small\n"+line+"\n", api.ErrTip)
		refuses(t, "@"+strings.ReplaceAll(line, "p.A1", "none.A1")+"\nuse none\n", api.ErrTip)
		fails(t, boardOf(t, ""), stepsOf(t, line+"\n"), 0, api.ErrTip)
	}
}

// P13.1: ErrWell at each place where a well stands, around each ware.
func TestNoSuchWell(t *testing.T) {
	there := []string{"p.A1", "p.A3", "p.B1", "p.B3", "trough.A1", "full.A1", "full.A12", "full.H1", "full.H12", longest + ".A1", longest + ".C2"}
	missing := []string{"p.A4", "p.B4", "p.C1", "p.C3", "p.H12", "trough.A2", "trough.B1", longest + ".A3", longest + ".D1", longest + ".D2", "none.A1", "small.A1", "big.A1", longest[:15] + ".A1", "ful.A1", "full1.A1"}
	for _, x := range []string{"transfer @ p.B2 5", "transfer p.B2 @ 5", "spread @ 5 p.B2", "spread p.B2 5 @", "spread p.B2 5 @ p.B2", "spread p.B2 5 p.B2 p.B2 @", "gather @ 5 p.B2", "gather p.B2 5 @ p.B2 p.B2", "gather p.B2 5 p.B2 @", "mix @ 5 2", "dilute 5 @ p.B2", "dilute 5 p.B2 @", "dilute 5 p.B2 @ p.B2"} {
		for _, w := range there {
			if l, _, at, e := Ops(board(t), stepsOf(t, "use big\n"+strings.Replace(x, "@", w, 1))); len(l) == 0 || at != 0 || e != api.OK {
				t.Errorf("%s, %s: %d Ops, %d, %d", x, w, len(l), at, e)
			}
		}
		for _, w := range missing {
			line := strings.Replace(x, "@", w, 1)
			refuses(t, "use big\n@"+line+"\n", api.ErrWell)
			refuses(t, "use big\nfresh each\nmix p.A1 5 2\n@"+line+"\nuse none\n", api.ErrWell)
		}
	}
	// wells of a tip's name are a ware's, if there is one so named
	does(t, "use p\nmix p.B3 5 1\n", "1 p 5 p.B3>p.B3*")
}

// P13.1: at most MaxOps, by each kind of step.
func TestTooMany(t *testing.T) {
	full := "use small\n" + strings.Repeat("mix p.A1 5 20\n", 49)
	list := func(n int) string { return strings.Repeat(" p.A2", n) }
	for _, line := range []func(n int) string{
		func(n int) string { return strings.TrimSuffix(strings.Repeat("transfer p.A1 p.A2 5\n", n), "\n") },
		func(n int) string { return "mix p.A1 5 " + strconv.Itoa(n) },
		func(n int) string { return "spread p.A1 5" + list(n) },
		func(n int) string { return "gather p.A1 5" + list(n) },
		func(n int) string { return "dilute 5 p.A1" + list(n) },
	} {
		for _, behind := range []string{"", "use big\n", "fresh each\nuse small\nfresh once\n"} {
			l, of, at, e := Ops(board(t), stepsOf(t, full+line(20)+"\n"+behind))
			if len(l) != maxOps || len(of) != maxOps || at != 0 || e != api.OK {
				t.Errorf("as many as there may be, by %.20q: %d, %d, %d, %d", line(20), len(l), len(of), at, e)
			}
		}
		refuses(t, full+line(20)+"\n@"+line(1)+"\n", api.ErrMany)
		refuses(t, full+line(19)+"\nuse big\nfresh each\n"+line(1)+"\nfresh once\n@"+line(1)+"\nuse none\n", api.ErrMany)
	}
	for _, line := range []string{"mix p.A1 5 20", "spread p.A1 5" + list(20), "gather p.A1 5" + list(95), "dilute 5 p.A1" + list(95)} {
		refuses(t, full+"transfer p.A1 p.A2 5\n@"+line+"\n", api.ErrMany)
		refuses(t, full+"transfer p.A1 p.A2 5\n@"+line+"\nmix none.A1 5 2\n"+line+"\n", api.ErrMany)
	}
	refuses(t, "use small\n"+strings.Repeat("spread p.A1 5"+list(95)+"\n", 10)+"@"+strings.Repeat("spread p.A1 5"+list(95)+"\n", 100), api.ErrMany)
}

// P13.1: in the order of steps; in one of them ErrTip, then ErrWell, then ErrMany.
func TestFirstError(t *testing.T) {
	full := "use small\n" + strings.Repeat("mix p.A1 5 20\n", 50)
	refuses(t, full+"@mix none.A1 5 2\n", api.ErrWell)
	refuses(t, full+"@spread p.A1 5 p.A2 p.C1\n", api.ErrWell)
	refuses(t, full+"@dilute 5 p.A1 p.A2"+strings.Repeat(" p.A3", 90)+" none.A1\n", api.ErrWell)
	refuses(t, full+"@use none\nmix p.A1 5 1\n", api.ErrTip)
	refuses(t, full+"@mix p.A1 5 1\nuse none\nmix none.A1 5 1\n", api.ErrMany)
	refuses(t, "@mix none.A1 5 2\n"+full, api.ErrTip)
	refuses(t, "use big\n@mix none.A1 5 2\nuse none\n"+full, api.ErrWell)
	refuses(t, "use big\n@use none\nmix none.A1 5 2\n"+full, api.ErrTip)
}

// notRight are steps that no line tells, of each kind.
func notRight() []api.Step {
	p, q := wellAt("p", 0, 0), wellAt("p", 0, 1)
	return []api.Step{
		{}, {Kind: 7}, {Kind: -1}, {Kind: 9, Name: "small"}, {Kind: math.MaxInt}, {Kind: math.MinInt},
		{Kind: api.Use, Name: "Small"}, {Kind: api.Use, Name: "small", V: 1}, {Kind: api.Use, Name: longest + "q"},
		{Kind: api.Fresh, N: 2}, {Kind: api.Fresh, N: -1}, {Kind: api.Fresh, Name: "small"},
		{Kind: api.Transfer, V: 5}, {Kind: api.Transfer, W: wells(p), V: 5}, {Kind: api.Transfer, W: wells(p, q, q), V: 5},
		{Kind: api.Transfer, W: wells(p, q)}, {Kind: api.Transfer, W: wells(p, q), V: maxVolume + 1}, {Kind: api.Transfer, W: wells(p, q), V: 5, N: 1},
		{Kind: api.Spread, V: 5}, {Kind: api.Spread, W: wells(p), V: 5}, {Kind: api.Spread, W: slices.Repeat(wells(p), maxList+1), V: 5},
		{Kind: api.Gather, V: 5}, {Kind: api.Gather, W: wells(p), V: 5}, {Kind: api.Gather, W: wells(p, wellAt("p", -1, 0)), V: 5},
		{Kind: api.Mix, V: 5, N: 2}, {Kind: api.Mix, W: wells(p), V: 5}, {Kind: api.Mix, W: wells(p), V: 5, N: -1}, {Kind: api.Mix, W: wells(p), V: 5, N: maxMix + 1},
		{Kind: api.Mix, W: wells(p), V: 5, N: math.MaxInt}, {Kind: api.Mix, W: wells(p), V: -5, N: 2}, {Kind: api.Mix, W: wells(p, q), V: 5, N: 2},
		{Kind: api.Dilute, V: 5}, {Kind: api.Dilute, W: wells(p), V: 5}, {Kind: api.Dilute, W: wells(p, wellAt("p", 0, 12)), V: 5},
	}
}

// P13.1: ErrRange of steps that aren't Right, wherever they stand and whatever else is wrong: the number of no step is told.
func TestStepsThatAreNotRight(t *testing.T) {
	b := board(t)
	good := stepsOf(t, "use small\nmix p.A1 5 2\nfresh each\n")
	bad := stepsOf(t, "mix none.A1 5 2\nuse none\n")
	for _, s := range notRight() {
		for i := range len(good) + 1 {
			fails(t, b, slices.Insert(slices.Clone(good), i, s), 0, api.ErrRange)
		}
		for i := range len(bad) + 1 {
			fails(t, b, slices.Insert(slices.Clone(bad), i, s), 0, api.ErrRange)
		}
		fails(t, b, []api.Step{s}, 0, api.ErrRange)
		fails(t, boardOf(t, ""), []api.Step{s}, 0, api.ErrRange)
		fails(t, nil, []api.Step{s}, 0, api.ErrRange)
	}
}

// P13.1: ErrRange of more than MaxSteps steps.
func TestTooManySteps(t *testing.T) {
	b := board(t)
	for _, s := range stepsOf(t, "use small\nfresh each\nmix none.A1 5 2\nuse none\n") {
		fails(t, b, slices.Repeat([]api.Step{s}, maxSteps+1), 0, api.ErrRange)
		fails(t, b, slices.Repeat([]api.Step{s}, 100*maxSteps), 0, api.ErrRange)
	}
	most := stepsOf(t, strings.Repeat("use small\n", maxSteps-1)+"mix p.A1 5 2\n")
	if l, of, _, e := Ops(b, most); len(l) != 2 || !slices.Equal(of, []int{199, 199}) || e != api.OK {
		t.Errorf("the most steps: %v, %v, %d", l, of, e)
	}
	fails(t, b, append(most[:maxSteps-1:maxSteps-1], stepsOf(t, "use none\n")...), maxSteps-1, api.ErrTip)
}

// P13.1: of a board nil: ErrRange, whatever the steps are.
func TestNoBoard(t *testing.T) {
	for _, s := range []string{"", "use small\n", "use none\n", "fresh each\n", "mix p.A1 5 2\n", "fresh each\nuse small\nmix p.A1 5 2\n"} {
		fails(t, nil, stepsOf(t, s), 0, api.ErrRange)
	}
	fails(t, nil, nil, 0, api.ErrRange)
}

// pairs of places in W, from and to, that a step of n wells comes to.
func pairs(kind, n, times int) [][2]int {
	var l [][2]int
	for i := 1; i < n; i++ {
		l = append(l, map[int][2]int{api.Transfer: {0, i}, api.Spread: {0, i}, api.Gather: {i, 0}, api.Dilute: {i - 1, i}}[kind])
	}
	if kind == api.Mix {
		l = make([][2]int, times)
	}
	return l
}

// lastOf is the place of the last step of that kind ahead of the i-th, or -1.
func lastOf(l []api.Step, i, kind int) int {
	for i--; i >= 0 && l[i].Kind != kind; i-- {
	}
	return i
}

// tipOf is by which tip the i-th step is done: "" if by none.
func tipOf(l []api.Step, i int) string {
	if k := lastOf(l, i, api.Use); k >= 0 {
		return l[k].Name
	}
	return ""
}

// wantError is what is wrong with the i-th step of some that are Right, but for how many Ops there are.
func wantError(d api.Deck, l []api.Step, i int) api.Errno {
	s := l[i]
	switch {
	case s.Kind == api.Use && !slices.ContainsFunc(d.Tips, func(t api.Tip) bool { return t.Name == s.Name }):
		return api.ErrTip
	case s.Kind == api.Use, s.Kind == api.Fresh:
		return api.OK
	case tipOf(l, i) == "":
		return api.ErrTip
	}
	sizes := map[string][2]int{}
	for _, x := range d.Wares {
		sizes[x.Name] = [2]int{x.Rows, x.Cols}
	}
	for _, w := range s.W {
		if size := sizes[w.Ware]; w.Row >= size[0] || w.Col >= size[1] {
			return api.ErrWell
		}
	}
	return api.OK
}

// wantOps is chapter 13 in other words: each step looks back for its tip and for how often that is new.
func wantOps(d api.Deck, l []api.Step) ([]api.Op, []int, int, api.Errno) {
	if !proto.Right(l) {
		return nil, nil, 0, api.ErrRange
	}
	var ops []api.Op
	var of []int
	for i, s := range l {
		if e := wantError(d, l, i); e != api.OK {
			return nil, nil, i, e
		}
		k := lastOf(l, i, api.Fresh)
		fresh := k >= 0 && l[k].N == 1
		for _, x := range pairs(s.Kind, len(s.W), s.N) {
			first := len(of) == 0 || tipOf(l, of[len(of)-1]) != tipOf(l, i)
			ops = append(ops, api.Op{Src: s.W[x[0]], Dst: s.W[x[1]], V: s.V, Tip: tipOf(l, i), New: fresh || first})
			of = append(of, i)
		}
		if len(ops) > maxOps {
			return nil, nil, i, api.ErrMany
		}
	}
	return ops, of, 0, api.OK
}

// checkOps answers the error.
func checkOps(t *testing.T, b *deck.Board, l []api.Step) api.Errno {
	t.Helper()
	ops, of, at, e := Ops(b, l)
	wantL, wantOf, wantAt, wantE := wantOps(b.Deck(), l)
	if !slices.Equal(ops, wantL) || !slices.Equal(of, wantOf) || at != wantAt || e != wantE {
		t.Errorf("Ops(%.400q): %.200q, %v, %d, %d, not %.200q, %v, %d, %d", proto.Print(l), fmt.Sprint(ops), of, at, e, fmt.Sprint(wantL), wantOf, wantAt, wantE)
	}
	return e
}

func pick[T any](r *rand.Rand, of ...T) T { return of[r.Intn(len(of))] }

// pickWell is mostly one that the deck has; it hasn't one in odd.
func pickWell(r *rand.Rand, odd int) api.Well {
	if r.Intn(odd) == 0 {
		return wellAt(pick(r, "p", "trough", longest, "none", "small"), r.Intn(8), r.Intn(12))
	}
	switch r.Intn(4) {
	case 0:
		return wellAt("p", r.Intn(2), r.Intn(3))
	case 1:
		return wellAt("trough", 0, 0)
	case 2:
		return wellAt(longest, r.Intn(3), r.Intn(2))
	}
	return wellAt("full", r.Intn(8), r.Intn(12))
}

// pickStep is one that is Right, mostly of few wells.
func pickStep(r *rand.Rand, odd int) api.Step {
	s := api.Step{Kind: r.Intn(7), V: 1 + r.Int63n(maxVolume)}
	n := 2 + r.Intn(4)
	if r.Intn(4) == 0 {
		n = 2 + r.Intn(maxList-1)
	}
	switch s.Kind {
	case api.Use:
		name := pick(r, "small", "small", "big", "p", longest)
		if r.Intn(odd) == 0 {
			name = pick(r, "none", "full", "trough", "smal")
		}
		return api.Step{Kind: api.Use, Name: name}
	case api.Fresh:
		return api.Step{Kind: api.Fresh, N: r.Intn(2)}
	case api.Transfer:
		n = 2
	case api.Mix:
		n, s.N = 1, 1+r.Intn(maxMix)
	}
	for range n {
		s.W = append(s.W, pickWell(r, odd))
	}
	return s
}

// pickSteps are some that are Right, mostly with a tip at first.
func pickSteps(r *rand.Rand, odd int) []api.Step {
	var l []api.Step
	if r.Intn(10) > 0 {
		l = append(l, api.Step{Kind: api.Use, Name: pick(r, "small", "big")})
	}
	for range r.Intn(pick(r, 3, 20, maxSteps)) {
		l = append(l, pickStep(r, odd))
	}
	return l
}

// P13.1: steps at random, against the chapter in other words.
func TestOpsOfMany(t *testing.T) {
	r := rand.New(rand.NewSource(1))
	b := board(t)
	found := map[api.Errno]int{}
	for range 6000 {
		found[checkOps(t, b, pickSteps(r, pick(r, 5, 100, 100000, 100000)))]++
	}
	for _, e := range []api.Errno{api.OK, api.ErrTip, api.ErrWell, api.ErrMany} {
		if found[e] < 200 {
			t.Errorf("too few of one kind were tried: %v", found)
		}
	}
}

// P13.2: what is done behind some steps changes nothing of what they come to, and stands behind it.
func TestOneThingBehindAnother(t *testing.T) {
	r := rand.New(rand.NewSource(2))
	b := board(t)
	for range 300 {
		l := pickSteps(r, 100000)
		whole, of, _, e := Ops(b, l)
		if e != api.OK {
			continue
		}
		if !slices.IsSorted(of) {
			t.Errorf("Ops(%.400q): steps %v", proto.Print(l), of)
		}
		for n := range len(l) + 1 {
			first, firstOf, _, e := Ops(b, l[:n])
			k := len(first)
			if e != api.OK || k > len(whole) || !slices.Equal(first, whole[:k]) || !slices.Equal(firstOf, of[:k]) {
				t.Fatalf("Ops(%.400q): %d Ops, %d", proto.Print(l[:n]), k, e)
			}
			if k < len(of) && of[k] < n {
				t.Fatalf("Ops(%.400q): step %d comes to more", proto.Print(l[:n]), of[k])
			}
		}
	}
}

// copied are steps that share nothing with l.
func copied(l []api.Step) []api.Step {
	c := slices.Clone(l)
	for i := range c {
		c[i].W = slices.Clone(c[i].W)
	}
	return c
}

func stepsSame(a, b api.Step) bool {
	return a.Kind == b.Kind && a.Name == b.Name && slices.Equal(a.W, b.W) && a.V == b.V && a.N == b.N
}

// DOC.md's third rule: steps are neither changed nor kept, nor is the room behind them.
func TestStepsAreLeftAlone(t *testing.T) {
	r := rand.New(rand.NewSource(3))
	b := board(t)
	spare := wellAt("spare", 1, 1)
	for range 1000 {
		l := pickSteps(r, 300)
		for i := range l {
			l[i].W = append(slices.Clone(l[i].W), spare)[:len(l[i].W)]
		}
		l = append(l, api.Step{Kind: 77})[:len(l)]
		before := copied(l)
		ops, of, _, e := Ops(b, l)
		if !slices.EqualFunc(l, before, stepsSame) || l[:len(l)+1][len(l)].Kind != 77 {
			t.Fatalf("%v was changed: %v", before, l)
		}
		for _, s := range l {
			if s.W[:len(s.W)+1][len(s.W)] != spare {
				t.Fatalf("behind the wells of %v: %v", s, s.W[:len(s.W)+1])
			}
		}
		for i := range l {
			clear(l[i].W)
			l[i] = api.Step{}
		}
		if want, wantOf, _, _ := wantOps(b.Deck(), before); e == api.OK && (!slices.Equal(ops, want) || !slices.Equal(of, wantOf)) {
			t.Fatalf("the answer changes with the steps: %v, %v", ops, of)
		}
	}
}

// DOC.md's third rule: what is answered is new memory.
func TestAnswersAreNew(t *testing.T) {
	b := board(t)
	l := stepsOf(t, "use small\nspread p.A1 5 p.A2 p.A3\nfresh each\nmix p.A1 5 2\n")
	first, firstOf, _, _ := Ops(b, l)
	second, secondOf, _, _ := Ops(b, l)
	clear(first[:cap(first)])
	clear(firstOf[:cap(firstOf)])
	want, wantOf, _, _ := wantOps(b.Deck(), l)
	if !slices.Equal(second, want) || !slices.Equal(secondOf, wantOf) {
		t.Errorf("two answers share: %v, %v", second, secondOf)
	}
	if third, thirdOf, _, _ := Ops(b, l); !slices.Equal(third, want) || !slices.Equal(thirdOf, wantOf) {
		t.Errorf("an answer is kept: %v, %v", third, thirdOf)
	}
}

// DOC.md's fourth rule: a board is as it was, whether its wells and tips were asked for in vain or not.
func TestBoardIsLeftAlone(t *testing.T) {
	b := board(t)
	for _, s := range []string{"use small\nmix p.A1 5 2\n", "use small\nuse none\n", "use big\nspread p.A1 5 trough.A1 none.A1\n", "use big\n" + strings.Repeat("mix full.A1 5 20\n", 51)} {
		Ops(b, stepsOf(t, s))
		if n := b.Tables(); n != 0 {
			t.Errorf("Ops(%.80q): %d tables were made", s, n)
		}
	}
	if got, want := ware.Print(b.Deck()), ware.Print(deckOf(t, deckText)); got != want || got == "" {
		t.Errorf("another deck: %q, not %q", got, want)
	}
	if _, _, e := b.Tip("small"); e != api.OK || b.Tables() != 1 {
		t.Errorf("a tip behind Ops: %d, %d tables", e, b.Tables())
	}
}

// DOC.md's eighth rule: the answers hang on the arguments alone, asked again, by many at once, of another board of that deck, of one that made its tables.
func TestSameAgain(t *testing.T) {
	r := rand.New(rand.NewSource(4))
	b, other := board(t), board(t)
	for range 200 {
		l := pickSteps(r, 100)
		want, wantOf, wantAt, wantE := Ops(b, l)
		other.Well(pickWell(r, 10))
		other.Tip(pick(r, "small", "big", "p", "none"))
		var all sync.WaitGroup
		for _, x := range []*deck.Board{b, b, other, board(t)} {
			all.Go(func() {
				ops, of, at, e := Ops(x, l)
				if !slices.Equal(ops, want) || !slices.Equal(of, wantOf) || at != wantAt || e != wantE {
					t.Errorf("%.400q isn't the same again", proto.Print(l))
				}
			})
		}
		all.Wait()
	}
}

// P13.1: a deck of as many wares and tips as there may be.
func TestOfTheGreatestDeck(t *testing.T) {
	var s strings.Builder
	for i := range 8 {
		fmt.Fprintf(&s, "ware w%d 8 12 0\nround 60000 0 20000\n", i)
	}
	for i := range 4 {
		fmt.Fprintf(&s, "tip w%d 1 1 0\nround 60000 0 20000\n", i)
	}
	b := boardOf(t, s.String())
	for tip := range 5 {
		for i := range 9 {
			for _, w := range []api.Well{wellAt("w"+strconv.Itoa(i), 0, 0), wellAt("w"+strconv.Itoa(i), 7, 11)} {
				l := []api.Step{{Kind: api.Use, Name: "w" + strconv.Itoa(tip)}, {Kind: api.Dilute, W: wells(wellAt("w0", 3, 3), w), V: 5}}
				want := api.OK
				if tip == 4 {
					want = api.ErrTip
				} else if i == 8 {
					want = api.ErrWell
				}
				if e := checkOps(t, b, l); e != want {
					t.Errorf("tip %d, %v: %d, not %d", tip, w, e, want)
				}
			}
		}
	}
}

// The limits that the tests count with are package api's.
func TestLimits(t *testing.T) {
	limits := []int64{api.MaxOps, api.MaxSteps, api.MaxList, api.MaxMix, api.MaxVolume, api.MaxName}
	if !slices.Equal(limits, []int64{maxOps, maxSteps, maxList, maxMix, maxVolume, int64(len(longest))}) {
		t.Errorf("other limits: %v", limits)
	}
	errnos := []api.Errno{api.ErrRange, api.ErrTip, api.ErrWell, api.ErrMany}
	if !slices.Equal(errnos, []api.Errno{20, 28, 26, 27}) {
		t.Errorf("other errors: %v", errnos)
	}
}

// FuzzOps holds the steps of any text against chapter 13 in other words.
func FuzzOps(f *testing.F) {
	b := board(f)
	for _, s := range []string{"", "use small\nmix p.A1 5 2\n", "fresh each\nuse p\nspread p.A1 5 p.A2 none.A1\n", "use big\ndilute 5 p.A1 p.A2 p.C1\n", "use none\n"} {
		f.Add(s)
	}
	f.Fuzz(func(t *testing.T, s string) {
		lines, _, _ := lex.Lines([]byte(s))
		if l, _, _, e := proto.Parse(lines); e == api.OK {
			checkOps(t, b, l)
		}
	})
}
