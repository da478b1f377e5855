package source

import (
	"fmt"
	"math"
	"math/rand"
	"slices"
	"strconv"
	"strings"
	"sync"
	"testing"

	"dipper/api"
	"dipper/deck"
	"dipper/lex"
	"dipper/ware"
	"dipper/well"
)

const (
	maxOps    = 1000
	maxVolume = 20000000
	mostFill  = 21000000
	strokesOf = 4
	longest   = "abcdefghijklmnop"
)

// waresText is a deck of 22 wells in wares of several sizes; fillsText fills some of them, in no order, one with nothing.
const (
	waresText = `ware p 2 3 100
box 10000 8000 8000 8000 8000
ware trough 1 1 0
round 2000 0 4000
box 20000 9000 9000 9000 9000
ware column 8 1 1000000
box 10000 8000 8000 8000 8000
ware row 1 1 7
box 10000 8000 8000 8000 8000
ware ` + longest + ` 3 2 5
round 1000 5 5
`
	tipsText = `tip small 100000 20000 10
box 50000 1000 1000 1000 1000
tip big 1000000 30000 100
box 50000 1000 1000 1000 1000
tip p 1 1 10000
round 100 1 1
tip ` + longest + ` 7 60000 0
round 200 1 2
`
	fillsText = `fill trough.A1 900000
fill p.A1 300000
fill ` + longest + `.C2 20000000
fill column.C1 0
fill p.B3 5
`
)

// The numbers of some wells of that deck.
const (
	a1, a2, a3, b1, b2, b3 = 0, 1, 2, 3, 4, 5
	trough                 = 6
	columnC                = 9
	last                   = 21
	count                  = 22
)

func deckOf(t testing.TB, s string) api.Deck {
	t.Helper()
	l, _, e := lex.Lines([]byte(s))
	d, rest, _, f := ware.Parse(l)
	if e != api.OK || f != api.OK || len(rest) > 0 {
		t.Fatalf("ware.Parse(%.80q): %d, %d, %v", s, e, f, rest)
	}
	return d
}

func board(t testing.TB) *deck.Board { return boardOf(t, waresText+tipsText+fillsText) }

func boardOf(t testing.TB, s string) *deck.Board {
	t.Helper()
	b, e := deck.New(deckOf(t, s))
	if e != api.OK {
		t.Fatalf("deck.New(%.80q): %d", s, e)
	}
	return b
}

func wellAt(name string, row, col int) api.Well { return api.Well{Ware: name, Row: row, Col: col} }

// numbered is the well of that number.
func numbered(i int) api.Well {
	switch {
	case i < trough:
		return wellAt("p", i/3, i%3)
	case i == trough:
		return wellAt("trough", 0, 0)
	case i < 15:
		return wellAt("column", i-7, 0)
	case i == 15:
		return wellAt("row", 0, 0)
	}
	return wellAt(longest, (i-16)/2, (i-16)%2)
}

func fillOf(i int, v int64) api.Fill { return api.Fill{W: numbered(i), V: v} }

func fillsOf(l ...api.Fill) []api.Fill { return l }

func opOf(src, dst int, v int64) api.Op {
	return api.Op{Src: numbered(src), Dst: numbered(dst), V: v, Tip: "small"}
}

func by(tip string, o api.Op) api.Op {
	o.Tip = tip
	return o
}

func opsOf(l ...api.Op) []api.Op { return l }

// strangers are wells that the deck hasn't.
func strangers() []api.Well {
	l := []api.Well{{}, wellAt("q", 0, 0), wellAt("P", 0, 0), wellAt("small", 0, 0), wellAt("big", 0, 0), wellAt("", 1, 1), wellAt(longest+"q", 0, 0), wellAt(longest[:15], 0, 0)}
	for _, odd := range []int{-1, math.MinInt, math.MaxInt, math.MinInt32, 1 << 32} {
		l = append(l, wellAt("p", odd, 0), wellAt("p", 0, odd), wellAt("p", odd, odd))
	}
	return append(l, wellAt("p", 2, 0), wellAt("p", 0, 3), wellAt("trough", 1, 0), wellAt("trough", 0, 1), wellAt("column", 8, 0), wellAt("column", 0, 1), wellAt(longest, 3, 0), wellAt(longest, 0, 2))
}

// atFirst is what the deck's fills say, but for what changes say of numbers.
func atFirst(changes map[int]int64) []int64 {
	l := make([]int64, count)
	l[trough], l[a1], l[last], l[b3] = 900000, 300000, 20000000, 5
	for i, v := range changes {
		l[i] = v
	}
	return l
}

// comesTo holds what is in wells behind all Ops: as at first, but for changes.
func comesTo(t *testing.T, fills []api.Fill, l []api.Op, changes map[int]int64) {
	t.Helper()
	got, e := Run(board(t), fills, l)
	if want := atFirst(changes); e != api.OK || !slices.Equal(got, want) {
		t.Errorf("Run(%.200v, %.200v): %v, %d, not %v", fills, l, got, e, want)
	}
}

// runFails holds that Run ends with that error, all else being zero.
func runFails(t *testing.T, fills []api.Fill, l []api.Op, want api.Errno) {
	t.Helper()
	if got, e := Run(board(t), fills, l); len(got) != 0 || e != want {
		t.Errorf("Run(%.200v, %.200v): %v, %d, not %d", fills, l, got, e, want)
	}
}

// touchedBy holds how many strokes touch each well: none, but for changes.
func touchedBy(t *testing.T, l []api.Op, changes map[int]int) {
	t.Helper()
	want := make([]int, count)
	for i, n := range changes {
		want[i] = n
	}
	if got, e := Touches(board(t), l); e != api.OK || !slices.Equal(got, want) {
		t.Errorf("Touches(%.200v): %v, %d, not %v", l, got, e, want)
	}
}

func touchesFail(t *testing.T, l []api.Op, want api.Errno) {
	t.Helper()
	if got, e := Touches(board(t), l); len(got) != 0 || e != want {
		t.Errorf("Touches(%.200v): %v, %d, not %d", l, got, e, want)
	}
}

// P14.1
func TestRunOfTheDecksFills(t *testing.T) {
	for _, fills := range [][]api.Fill{nil, {}} {
		for _, l := range [][]api.Op{nil, {}} {
			comesTo(t, fills, l, nil)
		}
	}
}

// P14.1: fills say otherwise than the deck, of wells that it fills and of others.
func TestRunOfFills(t *testing.T) {
	comesTo(t, fillsOf(fillOf(a1, 7)), nil, map[int]int64{a1: 7})
	comesTo(t, fillsOf(fillOf(a1, 0)), nil, map[int]int64{a1: 0})
	comesTo(t, fillsOf(fillOf(columnC, 1)), nil, map[int]int64{columnC: 1})
	comesTo(t, fillsOf(fillOf(a2, 9), fillOf(trough, 8), fillOf(last, 7)), nil, map[int]int64{a2: 9, trough: 8, last: 7})
	comesTo(t, fillsOf(fillOf(a2, mostFill), fillOf(a1, mostFill)), nil, map[int]int64{a2: mostFill, a1: mostFill})
	comesTo(t, fillsOf(fillOf(a1, 1)), opsOf(opOf(a1, a2, 1)), map[int]int64{a1: 0, a2: 1})
}

// P14.1: a later one of the same well counts, be it more or less, be others between.
func TestRunOfLaterFills(t *testing.T) {
	comesTo(t, fillsOf(fillOf(a1, 7), fillOf(a1, 8)), nil, map[int]int64{a1: 8})
	comesTo(t, fillsOf(fillOf(a1, 8), fillOf(a1, 7)), nil, map[int]int64{a1: 7})
	comesTo(t, fillsOf(fillOf(b1, mostFill), fillOf(a1, 7), fillOf(b1, 0)), nil, map[int]int64{b1: 0, a1: 7})
	comesTo(t, fillsOf(fillOf(b1, 1), fillOf(b2, 2), fillOf(b1, 3), fillOf(b2, 4), fillOf(b1, 5)), nil, map[int]int64{b1: 5, b2: 4})
}

// P14.1: each well's number is the place of what is in it.
func TestRunInOrder(t *testing.T) {
	b := board(t)
	var fills []api.Fill
	var want []int64
	for i := range count {
		fills = append(fills, fillOf(i, int64(1000+i)))
		want = append(want, int64(1000+i))
		if w, there := well.At(b.Deck(), i); !there || w != numbered(i) {
			t.Fatalf("well %d: %v, not %v", i, numbered(i), w)
		}
	}
	slices.Reverse(fills)
	if got, e := Run(b, fills, nil); e != api.OK || !slices.Equal(got, want) {
		t.Errorf("Run of %v: %v, %d", fills, got, e)
	}
	for i := range count {
		for j := range count {
			l := slices.Clone(want)
			l[i] -= 3
			l[j] += 3
			if got, e := Run(b, fills, opsOf(opOf(i, j, 3))); e != api.OK || !slices.Equal(got, l) {
				t.Errorf("Run from %d to %d: %v, %d, not %v", i, j, got, e, l)
			}
		}
	}
}

// P14.1: Op by Op, what came into a well may go on.
func TestRunOfOps(t *testing.T) {
	comesTo(t, nil, opsOf(opOf(a1, a2, 100)), map[int]int64{a1: 299900, a2: 100})
	comesTo(t, nil, opsOf(opOf(a1, a2, 300000)), map[int]int64{a1: 0, a2: 300000})
	comesTo(t, nil, opsOf(opOf(b3, b2, 1)), map[int]int64{b3: 4, b2: 1})
	comesTo(t, nil, opsOf(opOf(a1, a2, 100), opOf(a2, a3, 100), opOf(a3, trough, 99)), map[int]int64{a1: 299900, a2: 0, a3: 1, trough: 900099})
	comesTo(t, nil, opsOf(opOf(a1, a2, 100), opOf(a2, a1, 100)), nil)
	comesTo(t, nil, opsOf(opOf(b3, a1, 5), opOf(a1, b3, 300005)), map[int]int64{a1: 0, b3: 300005})
	comesTo(t, nil, opsOf(opOf(last, a2, maxVolume)), map[int]int64{last: 0, a2: 20000000})
	comesTo(t, nil, opsOf(opOf(a1, a2, 7), opOf(a1, a2, 7), opOf(a1, a3, 7)), map[int]int64{a1: 299979, a2: 14, a3: 7})
}

// P14.1: a well may come to more than any fill.
func TestRunPastAnyFill(t *testing.T) {
	fills := fillsOf(fillOf(a1, mostFill), fillOf(a2, mostFill), fillOf(a3, mostFill))
	l := opsOf(opOf(a2, a1, maxVolume), opOf(a3, a1, maxVolume), opOf(a2, a1, mostFill-maxVolume), opOf(a3, a1, mostFill-maxVolume))
	comesTo(t, fills, l, map[int]int64{a1: 3 * mostFill, a2: 0, a3: 0})
}

// P14.1: by which tip, and whether it is new, isn't asked.
func TestRunByAnyTip(t *testing.T) {
	for _, tip := range []string{"", "none", "small", "big", "p", "B\x00\xff", longest + longest} {
		o := by(tip, opOf(a1, a2, 100000))
		for _, o.New = range []bool{false, true} {
			comesTo(t, nil, opsOf(o, o), map[int]int64{a1: 100000, a2: 200000})
		}
	}
}

// P14.1: from a well to itself nothing changes, even if there is less in it.
func TestRunToItself(t *testing.T) {
	for i := range count {
		comesTo(t, nil, opsOf(opOf(i, i, 1), opOf(i, i, maxVolume)), nil)
	}
	comesTo(t, nil, opsOf(opOf(a1, a2, 3), opOf(a2, a2, 4), opOf(a2, a3, 3)), map[int]int64{a1: 299997, a3: 3})
	for _, v := range []int64{0, -1, maxVolume + 1} {
		runFails(t, nil, opsOf(opOf(a1, a1, v)), api.ErrRange)
	}
}

// P14.1
func TestRunDry(t *testing.T) {
	runFails(t, nil, opsOf(opOf(a1, a2, 300001)), api.ErrDry)
	runFails(t, nil, opsOf(opOf(a2, a1, 1)), api.ErrDry)
	runFails(t, nil, opsOf(opOf(b3, a1, 6)), api.ErrDry)
	runFails(t, nil, opsOf(opOf(b3, a1, maxVolume)), api.ErrDry)
	runFails(t, nil, opsOf(opOf(a1, a2, 300000), opOf(a1, a2, 1)), api.ErrDry)
	runFails(t, nil, opsOf(opOf(a1, a2, 150000), opOf(a1, a2, 150001)), api.ErrDry)
	runFails(t, nil, opsOf(opOf(a1, a2, 10), opOf(a2, a3, 11)), api.ErrDry)
	runFails(t, fillsOf(fillOf(a1, 0)), opsOf(opOf(a1, a2, 1)), api.ErrDry)
	runFails(t, fillsOf(fillOf(a1, 300001), fillOf(a1, 299999)), opsOf(opOf(a1, a2, 300000)), api.ErrDry)
}

// P14.1
func TestRunOfWrongVolumes(t *testing.T) {
	for _, v := range []int64{-1, mostFill + 1, math.MinInt64, math.MaxInt64, 1 << 32, -1 << 32} {
		runFails(t, fillsOf(fillOf(a1, v)), nil, api.ErrRange)
		runFails(t, fillsOf(fillOf(a2, 1), fillOf(a3, 1), fillOf(a2, v)), nil, api.ErrRange)
		// the later one counts, but each is asked
		runFails(t, fillsOf(fillOf(a2, v), fillOf(a2, 1)), nil, api.ErrRange)
	}
	for _, v := range []int64{0, -1, maxVolume + 1, math.MinInt64, math.MaxInt64, 1 << 32, -1 << 32} {
		runFails(t, fillsOf(fillOf(a1, mostFill)), opsOf(opOf(a1, a2, v)), api.ErrRange)
		runFails(t, fillsOf(fillOf(a1, mostFill)), opsOf(opOf(a1, a2, 1), opOf(a1, a2, v)), api.ErrRange)
	}
}

// P14.1
func TestRunOfStrangers(t *testing.T) {
	for _, w := range strangers() {
		runFails(t, fillsOf(api.Fill{W: w, V: 1}), nil, api.ErrWell)
		runFails(t, fillsOf(fillOf(a1, 1), api.Fill{W: w}), nil, api.ErrWell)
		runFails(t, nil, opsOf(api.Op{Src: w, Dst: numbered(a1), V: 1}), api.ErrWell)
		runFails(t, nil, opsOf(api.Op{Src: numbered(a1), Dst: w, V: 1}), api.ErrWell)
		runFails(t, nil, opsOf(api.Op{Src: w, Dst: w, V: 1}), api.ErrWell)
		runFails(t, nil, opsOf(opOf(a1, a2, 1), api.Op{Src: numbered(a1), Dst: w, V: 1}), api.ErrWell)
	}
}

// P14.1: fill by fill, then Op by Op; of one its well, then its volume, then what is there.
func TestFirstErrorOfRun(t *testing.T) {
	no := wellAt("q", 0, 0)
	runFails(t, fillsOf(api.Fill{W: no, V: -1}), nil, api.ErrWell)
	runFails(t, fillsOf(fillOf(a1, -1), api.Fill{W: no}), nil, api.ErrRange)
	runFails(t, fillsOf(api.Fill{W: no}, fillOf(a1, -1)), nil, api.ErrWell)
	runFails(t, fillsOf(fillOf(a1, -1)), opsOf(opOf(a2, a1, 1)), api.ErrRange)
	runFails(t, fillsOf(fillOf(a1, -1)), opsOf(api.Op{Src: no, Dst: no}), api.ErrRange)
	runFails(t, fillsOf(api.Fill{W: no}), opsOf(opOf(a2, a1, 0)), api.ErrWell)
	for _, v := range []int64{0, -1, maxVolume + 1} {
		runFails(t, nil, opsOf(api.Op{Src: no, Dst: numbered(a1), V: v}), api.ErrWell)
		runFails(t, nil, opsOf(api.Op{Src: numbered(a2), Dst: no, V: v}), api.ErrWell)
		runFails(t, nil, opsOf(opOf(a2, a1, v)), api.ErrRange)
		runFails(t, nil, opsOf(opOf(a2, a1, v), api.Op{Src: no, Dst: no, V: 1}), api.ErrRange)
	}
	runFails(t, nil, opsOf(api.Op{Src: numbered(a2), Dst: no, V: 1}), api.ErrWell)
	runFails(t, nil, opsOf(opOf(a2, a1, 1), opOf(a1, a2, 0)), api.ErrDry)
	runFails(t, nil, opsOf(opOf(a2, a1, 1), api.Op{Src: no, Dst: no, V: 1}), api.ErrDry)
	runFails(t, nil, opsOf(opOf(a1, a2, 0), opOf(a2, a1, 1)), api.ErrRange)
	runFails(t, nil, opsOf(opOf(a1, a2, 2), opOf(a2, a3, 3), opOf(a1, a2, 1)), api.ErrDry)
}

// P14.1
func TestNoBoard(t *testing.T) {
	for _, l := range [][]api.Op{nil, {}, {opOf(a1, a2, 1)}, {{Src: wellAt("q", 0, 0)}}} {
		for _, fills := range [][]api.Fill{nil, {fillOf(a1, 1)}, {{W: wellAt("q", 0, 0)}}} {
			if got, e := Run(nil, fills, l); len(got) != 0 || e != api.ErrRange {
				t.Errorf("Run of no board: %v, %d", got, e)
			}
		}
		if got, e := Touches(nil, l); len(got) != 0 || e != api.ErrRange {
			t.Errorf("Touches of no board: %v, %d", got, e)
		}
	}
}

// P14.1
func TestNoWells(t *testing.T) {
	for _, s := range []string{"", tipsText} {
		b := boardOf(t, s)
		if got, e := Run(b, nil, nil); len(got) != 0 || e != api.OK {
			t.Errorf("Run of no wells: %v, %d", got, e)
		}
		if got, e := Touches(b, nil); len(got) != 0 || e != api.OK {
			t.Errorf("Touches of no wells: %v, %d", got, e)
		}
		if got, e := Run(b, fillsOf(fillOf(a1, 1)), nil); len(got) != 0 || e != api.ErrWell {
			t.Errorf("Run of a fill, of no wells: %v, %d", got, e)
		}
		if got, e := Run(b, nil, opsOf(opOf(a1, a1, 1))); len(got) != 0 || e != api.ErrWell {
			t.Errorf("Run of an Op, of no wells: %v, %d", got, e)
		}
		if got, e := Touches(b, opsOf(opOf(a1, a1, 1))); len(got) != 0 || e != api.ErrWell {
			t.Errorf("Touches of an Op, of no wells: %v, %d", got, e)
		}
	}
}

// P14.1: small takes 99960 at most in a part, big 999600, the one of the long name 7.
func TestTouches(t *testing.T) {
	touchedBy(t, nil, nil)
	touchedBy(t, opsOf(), nil)
	touchedBy(t, opsOf(opOf(a1, a2, 1)), map[int]int{a1: 1, a2: 1})
	touchedBy(t, opsOf(opOf(a1, a2, 3)), map[int]int{a1: 3, a2: 3})
	touchedBy(t, opsOf(opOf(a1, a2, 4)), map[int]int{a1: 4, a2: 4})
	touchedBy(t, opsOf(opOf(a1, a2, 99960)), map[int]int{a1: 4, a2: 4})
	touchedBy(t, opsOf(opOf(a1, a2, 99961)), map[int]int{a1: 8, a2: 8})
	touchedBy(t, opsOf(by("big", opOf(a1, a2, 99961))), map[int]int{a1: 4, a2: 4})
	touchedBy(t, opsOf(by("big", opOf(a1, a2, 999601))), map[int]int{a1: 8, a2: 8})
	touchedBy(t, opsOf(by(longest, opOf(last, trough, 15))), map[int]int{last: 12, trough: 12})
	touchedBy(t, opsOf(by("big", opOf(a1, a2, maxVolume))), map[int]int{a1: 84, a2: 84})
}

// P14.1: each Op counts by its own tip, twice of a well that it goes from and to.
func TestTouchesOfMany(t *testing.T) {
	touchedBy(t, opsOf(opOf(a1, a1, 2)), map[int]int{a1: 4})
	touchedBy(t, opsOf(opOf(a1, a1, 99961)), map[int]int{a1: 16})
	touchedBy(t, opsOf(opOf(a1, a2, 5), opOf(a2, a1, 3)), map[int]int{a1: 7, a2: 7})
	touchedBy(t, opsOf(opOf(a1, a2, 5), opOf(a1, a3, 2), opOf(b3, a3, 1)), map[int]int{a1: 6, a2: 4, a3: 3, b3: 1})
	touchedBy(t, opsOf(opOf(a1, a2, 8), by(longest, opOf(a2, a3, 8)), by("big", opOf(a3, a1, 8))), map[int]int{a1: 8, a2: 12, a3: 12})
	for i := range count {
		for j := range count {
			want := map[int]int{i: 3}
			want[j] += 3
			touchedBy(t, opsOf(opOf(i, j, 3)), want)
		}
	}
}

// P14.1: whether there is enough in a well, whether a tip is new, isn't asked.
func TestTouchesOfDryWells(t *testing.T) {
	o := opOf(a2, a3, maxVolume)
	for _, o.New = range []bool{false, true} {
		touchedBy(t, opsOf(o, o), map[int]int{a2: 1608, a3: 1608})
	}
}

// tipText is a tip of that Cap and Err.
func tipText(name string, most, err int64) string {
	return "tip " + name + " " + strconv.FormatInt(most, 10) + " 5 " + strconv.FormatInt(err, 10) + "\nround 100 1 1\n"
}

// P14.1: as chapter 16 counts: how many parts, how many strokes of each, and how many parts are too many.
func TestStrokesOfTips(t *testing.T) {
	for _, x := range []struct {
		most, err, v int64
		want         int
		e            api.Errno
	}{
		{1, 0, 1, 1, api.OK}, {1, 0, 5, 5, api.OK}, {1, 0, 1000, 1000, api.OK}, {1, 0, 1001, 0, api.ErrCap}, {1, 0, maxVolume, 0, api.ErrCap},
		{5, 1, 1000, 1000, api.OK}, {5, 1, 1001, 0, api.ErrCap}, {4, 1, 1, 0, api.ErrCap}, {3, 1, 1, 0, api.ErrCap}, {1, 10000, 1, 0, api.ErrCap}, {1, 10000, maxVolume, 0, api.ErrCap},
		{40000, 10000, 1, 0, api.ErrCap}, {40001, 10000, 1, 1, api.OK}, {40001, 10000, 1000, 1000, api.OK}, {40001, 10000, 1001, 0, api.ErrCap},
		{2, 0, 1, 1, api.OK}, {2, 0, 2, 2, api.OK}, {2, 0, 3, 3, api.OK}, {2, 0, 2000, 2000, api.OK}, {2, 0, 2001, 0, api.ErrCap},
		{3, 0, 4, 4, api.OK}, {3, 0, 7, 7, api.OK}, {3, 0, 3000, 3000, api.OK}, {3, 0, 3001, 0, api.ErrCap},
		{4, 0, 4, 4, api.OK}, {4, 0, 5, 5, api.OK}, {4, 0, 4000, 4000, api.OK}, {4, 0, 4001, 0, api.ErrCap},
		{5, 0, 5, 4, api.OK}, {5, 0, 6, 6, api.OK}, {5, 0, 7, 7, api.OK}, {5, 0, 8, 8, api.OK}, {5, 0, 9, 8, api.OK}, {5, 0, 10, 8, api.OK}, {5, 0, 11, 11, api.OK}, {5, 0, 13, 12, api.OK},
		{5, 0, 4999, 4000, api.OK}, {5, 0, 5000, 4000, api.OK}, {5, 0, 5001, 0, api.ErrCap},
		{20000, 0, maxVolume, 4000, api.OK}, {19999, 0, maxVolume, 0, api.ErrCap}, {19999, 0, 19999000, 4000, api.OK}, {19999, 0, 19999001, 0, api.ErrCap},
		{maxVolume, 0, maxVolume, 4, api.OK}, {maxVolume, 0, 1, 1, api.OK}, {maxVolume - 1, 0, maxVolume, 8, api.OK},
		{maxVolume, 10000, 19960000, 4, api.OK}, {maxVolume, 10000, 19960001, 8, api.OK},
	} {
		b := boardOf(t, waresText+tipText("other", 1, 0)+tipText("t", x.most, x.err))
		for _, to := range []int{a1, a2} {
			got, e := Touches(b, opsOf(by("t", opOf(a1, to, x.v))))
			var want []int
			if x.e == api.OK {
				want = make([]int, count)
				want[a1] += x.want
				want[to] += x.want
			}
			if e != x.e || !slices.Equal(got, want) {
				t.Errorf("Touches by Cap %d, Err %d of %d: %v, %d, not %d, %d", x.most, x.err, x.v, got, e, x.want, x.e)
			}
		}
	}
}

// pieced: v in n pieces, the first ones greater.
func pieced(v, n int64) []int64 {
	var l []int64
	for i := range n {
		l = append(l, (v+n-1-i)/n)
	}
	return l
}

// wantStrokes is chapter 16's Count, part by part.
func wantStrokes(x api.Tip, v int64) (int, api.Errno) {
	if v < 1 || v > maxVolume {
		return 0, api.ErrRange
	}
	m := x.Cap - strokesOf*x.Err
	if m <= 0 {
		return 0, api.ErrCap
	}
	n := int64(1)
	for n <= maxOps && n*m < v {
		n++
	}
	if n > maxOps {
		return 0, api.ErrCap
	}
	all := 0
	for _, part := range pieced(v, n) {
		for _, stroke := range pieced(part, strokesOf) {
			if stroke > 0 {
				all++
			}
		}
	}
	return all, api.OK
}

// P14.1: all small tips, all small volumes, and those around where there are too many parts.
func TestStrokesOneByOne(t *testing.T) {
	for m := int64(-2); m <= 40; m++ {
		const err = 3
		b := boardOf(t, waresText+tipText("t", m+strokesOf*err, err))
		x := b.Deck().Tips[0]
		volumes := []int64{m*maxOps - 1, m * maxOps, m*maxOps + 1, m*maxOps/2 + 1, maxVolume - 1, maxVolume, maxVolume + 1}
		for v := int64(-3); v <= 170; v++ {
			volumes = append(volumes, v)
		}
		for _, v := range volumes {
			n, e := wantStrokes(x, v)
			got, f := Touches(b, opsOf(by("t", opOf(a1, a2, v))))
			if f != e || e == api.OK && (got[a1] != n || got[a2] != n) || e != api.OK && len(got) != 0 {
				t.Fatalf("Touches by %d - 4 times %d of %d: %v, %d, not %d, %d", x.Cap, x.Err, v, got, f, n, e)
			}
		}
	}
}

// P14.1
func TestTouchesOfNoTip(t *testing.T) {
	for _, tip := range []string{"", "none", "Small", "smal", "smalls", "trough", "column", longest + "q", longest[:15], "B\x00\xff"} {
		touchesFail(t, opsOf(by(tip, opOf(a1, a2, 1))), api.ErrTip)
		touchesFail(t, opsOf(opOf(a1, a2, 1), by(tip, opOf(a1, a2, 1))), api.ErrTip)
	}
	b := boardOf(t, waresText)
	if got, e := Touches(b, opsOf(opOf(a1, a2, 1))); len(got) != 0 || e != api.ErrTip {
		t.Errorf("Touches of no tips: %v, %d", got, e)
	}
}

// P14.1
func TestTouchesOfWrongVolumes(t *testing.T) {
	for _, v := range []int64{0, -1, maxVolume + 1, math.MinInt64, math.MaxInt64, 1 << 32, -1 << 32} {
		touchesFail(t, opsOf(opOf(a1, a2, v)), api.ErrRange)
		touchesFail(t, opsOf(opOf(a1, a1, v)), api.ErrRange)
		touchesFail(t, opsOf(opOf(a1, a2, 1), opOf(a1, a2, v)), api.ErrRange)
	}
}

// P14.1
func TestTouchesOfStrangers(t *testing.T) {
	for _, w := range strangers() {
		touchesFail(t, opsOf(api.Op{Src: w, Dst: numbered(a1), V: 1, Tip: "small"}), api.ErrWell)
		touchesFail(t, opsOf(api.Op{Src: numbered(a1), Dst: w, V: 1, Tip: "small"}), api.ErrWell)
		touchesFail(t, opsOf(api.Op{Src: w, Dst: w, V: 1, Tip: "small"}), api.ErrWell)
		touchesFail(t, opsOf(opOf(a1, a2, 1), api.Op{Src: numbered(a1), Dst: w, V: 1, Tip: "small"}), api.ErrWell)
	}
}

// P14.1: Op by Op: its wells, then its tip, then its volume, then whether the tip takes enough.
func TestFirstErrorOfTouches(t *testing.T) {
	no := wellAt("q", 0, 0)
	for _, v := range []int64{1, 0, -1, maxVolume + 1} {
		for _, tip := range []string{"none", "p", "small"} {
			touchesFail(t, opsOf(api.Op{Src: no, Dst: numbered(a1), V: v, Tip: tip}), api.ErrWell)
			touchesFail(t, opsOf(api.Op{Src: numbered(a1), Dst: no, V: v, Tip: tip}), api.ErrWell)
		}
		touchesFail(t, opsOf(by("none", opOf(a1, a2, v))), api.ErrTip)
	}
	for _, v := range []int64{0, -1, maxVolume + 1} {
		touchesFail(t, opsOf(by("p", opOf(a1, a2, v))), api.ErrRange)
		touchesFail(t, opsOf(by(longest, opOf(a1, a2, v))), api.ErrRange)
	}
	touchesFail(t, opsOf(by("p", opOf(a1, a2, 1)), opOf(a1, a2, 0)), api.ErrCap)
	touchesFail(t, opsOf(by(longest, opOf(a1, a2, 7001)), by("none", opOf(a1, a2, 1))), api.ErrCap)
	touchesFail(t, opsOf(opOf(a1, a2, 0), by("none", opOf(a1, a2, 1))), api.ErrRange)
	touchesFail(t, opsOf(by("none", opOf(a1, a2, 1)), api.Op{Src: no, Dst: no}), api.ErrTip)
	touchesFail(t, opsOf(opOf(a1, a2, 1), by("p", opOf(a1, a2, 1)), by("none", opOf(a1, a2, 1))), api.ErrCap)
}

// here: is w one of d's, asked ware by ware?
func here(d api.Deck, w api.Well) bool {
	return slices.ContainsFunc(d.Wares, func(x api.Ware) bool {
		return x.Name == w.Ware && w.Row >= 0 && w.Row < x.Rows && w.Col >= 0 && w.Col < x.Cols
	})
}

// allWells of d in order of their numbers.
func allWells(d api.Deck) []api.Well {
	var l []api.Well
	for _, x := range d.Wares {
		for i := range x.Rows * x.Cols {
			l = append(l, wellAt(x.Name, i/x.Cols, i%x.Cols))
		}
	}
	return l
}

// saidOf is what the last one of l that tells of w says; false, if there is none.
func saidOf(l []api.Fill, w api.Well) (int64, bool) {
	for _, f := range slices.Backward(l) {
		if f.W == w {
			return f.V, true
		}
	}
	return 0, false
}

// holding is what is in w behind the Ops, all of which may be: what it had, less what went, more what came.
func holding(d api.Deck, fills []api.Fill, l []api.Op, w api.Well) int64 {
	v, said := saidOf(fills, w)
	if !said {
		v, _ = saidOf(d.Fills, w)
	}
	for _, o := range l {
		if o.Src == w {
			v -= o.V
		}
		if o.Dst == w {
			v += o.V
		}
	}
	return v
}

// wantRun is P14.1 in other words: each Op is asked against all those ahead of it.
func wantRun(d api.Deck, fills []api.Fill, l []api.Op) ([]int64, api.Errno) {
	for _, f := range fills {
		switch {
		case !here(d, f.W):
			return nil, api.ErrWell
		case f.V < 0, f.V > mostFill:
			return nil, api.ErrRange
		}
	}
	for i, o := range l {
		switch {
		case !here(d, o.Src), !here(d, o.Dst):
			return nil, api.ErrWell
		case o.V < 1, o.V > maxVolume:
			return nil, api.ErrRange
		case o.Src != o.Dst && holding(d, fills, l[:i], o.Src) < o.V:
			return nil, api.ErrDry
		}
	}
	var want []int64
	for _, w := range allWells(d) {
		want = append(want, holding(d, fills, l, w))
	}
	return want, api.OK
}

// wantTouches is P14.1 in other words: each well is asked of each Op.
func wantTouches(d api.Deck, l []api.Op) ([]int, api.Errno) {
	strokes := make([]int, len(l))
	for i, o := range l {
		if !here(d, o.Src) || !here(d, o.Dst) {
			return nil, api.ErrWell
		}
		found := false
		for _, x := range d.Tips {
			if x.Name != o.Tip {
				continue
			}
			found = true
			var e api.Errno
			if strokes[i], e = wantStrokes(x, o.V); e != api.OK {
				return nil, e
			}
		}
		if !found {
			return nil, api.ErrTip
		}
	}
	var want []int
	for _, w := range allWells(d) {
		n := 0
		for i, o := range l {
			if o.Src == w {
				n += strokes[i]
			}
			if o.Dst == w {
				n += strokes[i]
			}
		}
		want = append(want, n)
	}
	return want, api.OK
}

func pick[T any](r *rand.Rand, of ...T) T { return of[r.Intn(len(of))] }

// pickWell is a stranger once in odd, if odd isn't 0.
func pickWell(r *rand.Rand, odd int) api.Well {
	if odd > 0 && r.Intn(odd) == 0 {
		return pick(r, strangers()...)
	}
	// few of them, so that they meet
	return numbered(pick(r, a1, a2, b3, trough, last, r.Intn(count)))
}

// pickVolume is wrong once in odd, if odd isn't 0; else from 1 to most.
func pickVolume(r *rand.Rand, odd int, most int64) int64 {
	if odd > 0 && r.Intn(odd) == 0 {
		return pick(r, 0, -1, most+1, math.MinInt64, math.MaxInt64)
	}
	return 1 + r.Int63n(pick(r, 5, 100, 10000, most))
}

func pickFills(r *rand.Rand, odd int) []api.Fill {
	var l []api.Fill
	for range r.Intn(8) {
		l = append(l, api.Fill{W: pickWell(r, odd), V: pickVolume(r, odd, mostFill)})
	}
	return l
}

func pickOps(r *rand.Rand, odd int) []api.Op {
	var l []api.Op
	for range r.Intn(25) {
		o := api.Op{Src: pickWell(r, odd), Dst: pickWell(r, odd), V: pickVolume(r, odd, maxVolume), Tip: pick(r, "small", "big", "big", longest), New: r.Intn(2) == 0}
		if odd > 0 && r.Intn(odd) == 0 {
			o.Tip = pick(r, "", "none", "p", "trough")
		}
		l = append(l, o)
	}
	return l
}

// checkRun holds Run against wantRun.
func checkRun(t *testing.T, b *deck.Board, fills []api.Fill, l []api.Op) api.Errno {
	t.Helper()
	want, e := wantRun(b.Deck(), fills, l)
	if got, f := Run(b, fills, l); f != e || !slices.Equal(got, want) {
		t.Fatalf("Run(%v, %v): %v, %d, not %v, %d", fills, l, got, f, want, e)
	}
	return e
}

// checkTouches holds Touches against wantTouches.
func checkTouches(t *testing.T, b *deck.Board, l []api.Op) api.Errno {
	t.Helper()
	want, e := wantTouches(b.Deck(), l)
	if got, f := Touches(b, l); f != e || !slices.Equal(got, want) {
		t.Fatalf("Touches(%v): %v, %d, not %v, %d", l, got, f, want, e)
	}
	return e
}

// P14.1: at random; each way to end is met often.
func TestAtRandom(t *testing.T) {
	b := board(t)
	r := rand.New(rand.NewSource(14))
	runs, touches := map[api.Errno]int{}, map[api.Errno]int{}
	for i := range 20000 {
		odd := pick(r, 0, 0, 10, 60)
		l := pickOps(r, odd)
		if i%2 == 0 { // small ones don't dry wells up
			for k := range l {
				l[k].V = min(l[k].V, 3)
			}
		}
		runs[checkRun(t, b, pickFills(r, odd), l)]++
		touches[checkTouches(t, b, l)]++
	}
	for _, e := range []api.Errno{api.OK, api.ErrWell, api.ErrRange, api.ErrDry} {
		if runs[e] < 500 {
			t.Errorf("Run ended only %d times with %d", runs[e], e)
		}
	}
	for _, e := range []api.Errno{api.OK, api.ErrWell, api.ErrRange, api.ErrTip, api.ErrCap} {
		if touches[e] < 500 {
			t.Errorf("Touches ended only %d times with %d", touches[e], e)
		}
	}
}

func sum(l []int64) int64 {
	var all int64
	for _, v := range l {
		all += v
	}
	return all
}

// P14.2: nothing is lost, nothing is won, nowhere is less than nothing, Op by Op.
func TestNothingIsLost(t *testing.T) {
	b := board(t)
	r := rand.New(rand.NewSource(142))
	moved := 0
	for range 3000 {
		fills, l := pickFills(r, 0), pickOps(r, 0)
		first, e := Run(b, fills, nil)
		if e != api.OK {
			t.Fatalf("Run(%v, nil): %d", fills, e)
		}
		for n := range len(l) + 1 {
			got, e := Run(b, fills, l[:n])
			if e == api.ErrDry {
				break
			}
			if e != api.OK || sum(got) != sum(first) || slices.Min(got) < 0 {
				t.Fatalf("Run(%v, %v): %v, %d, where %v was", fills, l[:n], got, e, first)
			}
			if !slices.Equal(got, first) {
				moved++
			}
		}
	}
	if moved < 3000 {
		t.Errorf("only %d Runs moved anything", moved)
	}
}

// P14.2: the example: a transfer, and the sum stays; there and back all is as it was.
func TestTheSumStays(t *testing.T) {
	b := board(t)
	first, _ := Run(b, nil, nil)
	got, e := Run(b, nil, opsOf(opOf(a1, a2, 12345)))
	if e != api.OK || sum(got) != sum(first) || sum(first) != 21200005 || slices.Equal(got, first) {
		t.Errorf("Run of a transfer: %v, %d, where %v was", got, e, first)
	}
	var there, back []api.Op
	for i := range count {
		there = append(there, opOf(a1, i, int64(i+1)))
		back = append(back, opOf(i, a1, int64(i+1)))
	}
	if got, e := Run(b, nil, append(there, back...)); e != api.OK || !slices.Equal(got, first) {
		t.Errorf("Run there and back: %v, %d, not %v", got, e, first)
	}
}

// P14.1: the touches of all Ops are those of each by itself, together.
func TestTouchesAddUp(t *testing.T) {
	b := board(t)
	r := rand.New(rand.NewSource(143))
	for range 500 {
		l := pickOps(r, 0)
		want := make([]int, count)
		fit := true
		for _, o := range l {
			one, e := Touches(b, opsOf(o))
			fit = fit && e == api.OK
			for i, n := range one {
				want[i] += n
			}
		}
		if got, e := Touches(b, l); fit != (e == api.OK) || fit && !slices.Equal(got, want) {
			t.Fatalf("Touches(%v): %v, %d, not %v", l, got, e, want)
		}
	}
}

// withRoom is l with spare room of these behind it.
func withRoom[T any](l []T, more ...T) []T { return append(slices.Clone(l), more...)[:len(l)] }

// DOC.md, 'What holds everywhere', 3: what is handed in isn't changed, nor the spare room behind it.
func TestWhatIsHandedInIsLeftAlone(t *testing.T) {
	b := board(t)
	for _, v := range []int64{1, 300000, 300001, 0} {
		plainFills := fillsOf(fillOf(a2, 9), fillOf(a2, 8))
		plainOps := opsOf(opOf(a1, a2, v), by("big", opOf(a1, a1, 3)))
		fills := withRoom(plainFills, fillOf(b1, 77), fillOf(b2, 78))
		l := withRoom(plainOps, opOf(b1, b2, 79), opOf(b2, b1, 80))
		allFills, all := slices.Clone(fills[:4]), slices.Clone(l[:4])
		Run(b, fills, l)
		Touches(b, l)
		if !slices.Equal(fills[:4], allFills) || !slices.Equal(l[:4], all) {
			t.Errorf("changed: %v, %v, not %v, %v", fills[:4], l[:4], allFills, all)
		}
		if got, _ := Run(b, fills[:0], nil); !slices.Equal(got, atFirst(nil)) || !slices.Equal(fills[:4], allFills) {
			t.Errorf("Run of spare room: %v, %v", got, fills[:4])
		}
	}
}

// DOC.md, 'What holds everywhere', 3: what is answered is new memory, and nothing of what was handed in is kept.
func TestAnswersAreNew(t *testing.T) {
	b := board(t)
	fills, l := fillsOf(fillOf(a2, 9)), opsOf(opOf(a1, a3, 4))
	held, _ := Run(b, fills, l)
	touched, _ := Touches(b, l)
	wantHeld, wantTouched := slices.Clone(held), slices.Clone(touched)
	fills[0], l[0] = fillOf(b1, 1), opOf(trough, b2, 2)
	if !slices.Equal(held, wantHeld) || !slices.Equal(touched, wantTouched) {
		t.Errorf("answers hang on what was handed in: %v, %v", held, touched)
	}
	for i := range count {
		held[i], touched[i] = -1, -1
	}
	comes, _ := Run(b, fillsOf(fillOf(a2, 9)), opsOf(opOf(a1, a3, 4)))
	touches, _ := Touches(b, opsOf(opOf(a1, a3, 4)))
	if !slices.Equal(comes, wantHeld) || !slices.Equal(touches, wantTouched) {
		t.Errorf("answers hang on earlier ones: %v, %v", comes, touches)
	}
	if got, _ := Run(b, nil, nil); !slices.Equal(got, atFirst(nil)) {
		t.Errorf("fills were kept: %v", got)
	}
}

// DOC.md, 'What holds everywhere', 4: a board is as it was, beside an error, too: no table of it is made.
func TestBoardIsLeftAlone(t *testing.T) {
	b := board(t)
	was := fmt.Sprintf("%#v", b.Deck())
	start := b.Start()
	no := api.Op{Src: numbered(a1), Dst: wellAt("q", 0, 0), V: 1, Tip: "small"}
	for _, l := range [][]api.Op{nil, {opOf(a1, a2, 5)}, {opOf(a1, a2, 5), no}, {opOf(a1, a2, 0)}, {by("p", opOf(a1, a2, 5))}, {by("none", opOf(a1, a2, 5))}} {
		for _, fills := range [][]api.Fill{nil, {fillOf(a1, 17), fillOf(a2, 18)}, {fillOf(a1, 17), fillOf(a2, -1)}} {
			Run(b, fills, l)
			Touches(b, l)
			if b.Tables() != 0 || fmt.Sprintf("%#v", b.Deck()) != was || !slices.Equal(b.Start(), start) {
				t.Fatalf("the board is another one behind %v, %v", fills, l)
			}
		}
	}
}

// DOC.md, 'What holds everywhere', 8: many at once answer as one does.
func TestManyAtOnce(t *testing.T) {
	b := board(t)
	r := rand.New(rand.NewSource(148))
	type asked struct {
		fills   []api.Fill
		ops     []api.Op
		held    []int64
		touched []int
		e, f    api.Errno
	}
	var all []asked
	for range 50 {
		x := asked{fills: pickFills(r, 60), ops: pickOps(r, 60)}
		x.held, x.e = Run(b, x.fills, x.ops)
		x.touched, x.f = Touches(b, x.ops)
		all = append(all, x)
	}
	var wait sync.WaitGroup
	for range 8 {
		wait.Go(func() {
			for _, x := range all {
				held, e := Run(b, x.fills, x.ops)
				touched, f := Touches(b, x.ops)
				if e != x.e || f != x.f || !slices.Equal(held, x.held) || !slices.Equal(touched, x.touched) {
					t.Errorf("Run(%v, %v): %v, %d; Touches: %v, %d", x.fills, x.ops, held, e, touched, f)
				}
			}
		})
	}
	wait.Wait()
}

// P14.1, P14.2: as many wells as there may be, each as full as may be, all gathered in one.
func TestOfTheGreatestDeck(t *testing.T) {
	var text strings.Builder
	for i := range 8 {
		text.WriteString("ware " + longest[:15] + strconv.Itoa(i) + " 8 12 1000000\nbox 10000 8000 8000 8000 8000\n")
	}
	b := boardOf(t, text.String()+tipText("t", maxVolume, 0))
	wells := allWells(b.Deck())
	var fills []api.Fill
	var l []api.Op
	for _, w := range wells {
		fills = append(fills, api.Fill{W: w, V: mostFill})
		if w != wells[700] {
			l = append(l, api.Op{Src: w, Dst: wells[700], V: maxVolume, Tip: "t"}, api.Op{Src: w, Dst: wells[700], V: mostFill - maxVolume, Tip: "t"})
		}
	}
	wantHeld, wantTouched := make([]int64, 768), make([]int, 768)
	for i := range wantTouched {
		wantTouched[i] = 8
	}
	wantHeld[700], wantTouched[700] = 768*mostFill, 767*8
	if got, e := Run(b, fills, l); e != api.OK || !slices.Equal(got, wantHeld) {
		t.Errorf("Run of the greatest deck: %v, %d", got, e)
	}
	if got, e := Touches(b, l); e != api.OK || !slices.Equal(got, wantTouched) {
		t.Errorf("Touches of the greatest deck: %v, %d", got, e)
	}
}

// P14.1: lists may be longer than what a source comes to.
func TestOfLongLists(t *testing.T) {
	const n = 200000
	fills := slices.Repeat(fillsOf(fillOf(a2, 1), fillOf(a2, 2)), n)
	l := slices.Repeat(opsOf(opOf(a1, a2, 300000), opOf(a2, a1, 300000)), n)
	comesTo(t, fills, l, map[int]int64{a2: 2})
	comesTo(t, fills, append(l, opOf(a2, a1, 2)), map[int]int64{a1: 300002, a2: 0})
	runFails(t, fills, append(l, opOf(a2, a1, 3)), api.ErrDry)
	runFails(t, append(fills, fillOf(a2, -1)), l, api.ErrRange)
	// four parts of four strokes each, from and to
	touchedBy(t, l, map[int]int{a1: 2 * n * 16, a2: 2 * n * 16})
	touchesFail(t, append(l, by("none", opOf(a1, a2, 1))), api.ErrTip)
}

// The numbers of this file are api's limits.
func TestLimits(t *testing.T) {
	for _, x := range [][2]int{{maxOps, api.MaxOps}, {maxVolume, api.MaxVolume}, {mostFill, api.MaxVolume + api.MaxTol}, {strokesOf, api.Strokes}} {
		if x[0] != x[1] {
			t.Errorf("a limit is %d, not %d", x[1], x[0])
		}
	}
}

// P14.1, P14.2
func FuzzSource(f *testing.F) {
	f.Add(int64(1), 0, int64(5), int64(5))
	f.Add(int64(2), 7, int64(maxVolume), int64(mostFill))
	f.Fuzz(func(t *testing.T, seed int64, odd int, v, w int64) {
		b := board(t)
		r := rand.New(rand.NewSource(seed))
		fills, l := pickFills(r, max(odd, 0)), pickOps(r, max(odd, 0))
		for i := range l {
			if r.Intn(4) == 0 {
				l[i].V = v
			}
		}
		for i := range fills {
			if r.Intn(4) == 0 {
				fills[i].V = w
			}
		}
		checkRun(t, b, fills, l)
		checkTouches(t, b, l)
	})
}
