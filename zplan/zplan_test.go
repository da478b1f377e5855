package zplan

import (
	"math"
	"math/big"
	"math/rand"
	"strconv"
	"sync"
	"testing"

	"dipper/api"
	"dipper/dead"
	"dipper/deck"
	"dipper/level"
	"dipper/table"
	"dipper/tip"
	"dipper/track"
)

const (
	lowest  = math.MinInt64
	highest = math.MaxInt64
	billion = 1000000000
)

func round(h, a0, a1 int64) api.Section { return api.Section{Round: true, H: h, A0: a0, A1: a1} }

func box(h, a0, b0, a1, b1 int64) api.Section {
	return api.Section{H: h, A0: a0, B0: b0, A1: a1, B1: b1}
}

// even is a box of 1000 nanolitres a slice.
func even(h int64) api.Section { return box(h, 10000, 1000, 10000, 1000) }

// thin is a tip that pushes next to nothing aside: at most one nanolitre.
func thin(h int64) api.Section { return box(h, 1, 1, 1, 1) }

func list(s ...api.Section) []api.Section { return s }

func span(lo, hi int64) api.Span { return api.Span{Lo: lo, Hi: hi} }

func of(t testing.TB, s ...api.Section) *table.Table {
	t.Helper()
	made, e := table.Of(s)
	if e != api.OK {
		t.Fatalf("table.Of(%v): %d", s, e)
	}
	return made
}

// pickShape is one that is Right, of sides up to side.
func pickShape(r *rand.Rand, side, tall int64) []api.Section {
	var s []api.Section
	for range 1 + r.Intn(4) {
		x := box(100*(1+r.Int63n(tall/400)), r.Int63n(side+1), r.Int63n(side+1), 1+r.Int63n(side), 1+r.Int63n(side))
		if r.Intn(2) == 0 {
			x = round(x.H, x.A0, x.A1)
		}
		s = append(s, x)
	}
	return s
}

// pair is a well and what dips into it.
type pair struct{ well, outer *table.Table }

func pairs(t testing.TB, seed int64, more int) []pair {
	t.Helper()
	all := []pair{
		{of(t, box(100, 20000, 20000, 20000, 20000)), of(t, box(60000, 20000, 20000, 20000, 20000))},
		{of(t, box(60000, 20000, 20000, 20000, 20000)), of(t, box(60000, 20000, 20000, 20000, 20000))},
		{of(t, box(60000, 20000, 20000, 20000, 20000)), of(t, round(60000, 100, 900))},
		{of(t, box(60000, 0, 20000, 20000, 1)), of(t, round(100, 0, 1))},
		// its lower bounds are noughts: nothing is ever high enough for them
		{of(t, round(3000, 1, 1)), of(t, round(1000, 300, 900))},
		{of(t, round(30000, 20000, 1), box(30000, 1, 1, 20000, 20000)), of(t, round(60000, 0, 9000))},
		{of(t, even(400)), of(t, thin(1000))},
		{of(t, even(500)), of(t, thin(1000))},
		{of(t, even(600)), of(t, thin(1000))},
		{of(t, even(1300)), of(t, thin(1000))},
		{of(t, even(1800)), of(t, thin(1000))},
		{of(t, even(30000)), of(t, box(30000, 700, 700, 700, 700))},
	}
	r := rand.New(rand.NewSource(seed))
	for range more {
		well := pickShape(r, []int64{900, 5000, 20000}[r.Intn(3)], []int64{1600, 8000, 60000}[r.Intn(3)])
		outer := pickShape(r, []int64{300, 1000, 5000, 20000}[r.Intn(4)], 60000)
		all = append(all, pair{of(t, well...), of(t, outer...)})
	}
	return all
}

// volumes are those at which a well's level may turn over, and some between and beyond.
func volumes(well *table.Table, r *rand.Rand) []int64 {
	all := []int64{lowest, lowest + 1, -1000000, -1, 0, 1, billion - 1, billion, billion + 1, highest - 1, highest}
	// those times a million wrap round 64 bits to little, or to less than nought
	all = append(all, 18446744073710, 1<<32, 1<<58, 9223372036855)
	for _, i := range []int{12, 13, well.Slices() - 5, well.Slices(), r.Intn(well.Slices() + 1)} {
		for _, x := range []int64{well.Low(i), well.High(i)} {
			all = append(all, x/1000000-1, x/1000000, x/1000000+1)
		}
	}
	for range 10 {
		all = append(all, r.Int63n(well.High(well.Slices())/1000000+2))
	}
	return all
}

// pickFill is mostly less than the well holds.
func pickFill(well *table.Table, r *rand.Rand) int64 {
	return r.Int63n(well.High(well.Slices())/1000000 + 2)
}

// cubic is how many cubic micrometres v is taken for.
func cubic(v *big.Int) *big.Int {
	if v.Sign() < 0 {
		return new(big.Int)
	}
	if most := big.NewInt(billion); v.Cmp(most) > 0 {
		v = most
	}
	return new(big.Int).Mul(v, big.NewInt(1000000))
}

// wantLow goes up from the floor, slice by slice, while v fills the widest that the well may be.
func wantLow(well *table.Table, v int64) int64 {
	h := int64(0)
	for i := 1; i <= well.Slices() && big.NewInt(well.High(i)).Cmp(cubic(big.NewInt(v))) <= 0; i++ {
		h += 100
	}
	return h
}

// wantHigh goes up from the floor, slice by slice, till the narrowest that the well may be has v, or it is full.
func wantHigh(well *table.Table, v *big.Int) int64 {
	h, x := int64(0), cubic(v)
	for i := 0; i <= well.Slices() && big.NewInt(well.Low(i)).Cmp(x) < 0; i++ {
		h += 100
	}
	return h
}

// wantPush: in nanolitres upwards, what a tip has at most up to that height of its own.
func wantPush(outer *table.Table, depth int64) int64 {
	i := 0
	for int64(i)*100 < depth && i < outer.Slices() {
		i++
	}
	v := outer.High(i) / 1000000
	if outer.High(i)%1000000 > 0 {
		v++
	}
	return v
}

func wantSurface(p pair, v, z int64) int64 {
	pushed := big.NewInt(wantPush(p.outer, wantHigh(p.well, big.NewInt(v))-z))
	return wantHigh(p.well, pushed.Add(pushed, big.NewInt(v)))
}

func wantDraw(p pair, filter int64, was, then api.Span) (int64, api.Errno) {
	low := wantLow(p.well, then.Lo)
	if low < 1300 {
		return 0, api.ErrDry
	}
	surface := wantSurface(p, was.Hi, low-1000)
	if surface > p.well.Height()-500 {
		return 0, api.ErrRim
	}
	if surface-(low-1000) > filter {
		return 0, api.ErrWet
	}
	return low - 1000, api.OK
}

func wantGive(p pair, then api.Span) (int64, api.Errno) {
	high := wantHigh(p.well, big.NewInt(then.Hi))
	if high > p.well.Height()-500 {
		return 0, api.ErrRim
	}
	return high + 500, api.OK
}

// P18.1: slice by slice, of the least that there may be; below the floor, too, and whatever the greatest is.
func TestDepth(t *testing.T) {
	well := of(t, even(2000))
	for _, x := range []struct{ lo, z int64 }{
		{lowest, -1000},
		{-1, -1000},
		{0, -1000},
		{999, -1000},
		{1000, -900},
		{1001, -900},
		{1999, -900},
		{2000, -800},
		{9999, -100},
		{10000, 0},
		{10001, 0},
		{11000, 100},
		{12999, 200},
		{13000, 300},
		{19999, 900},
		{20000, 1000},
		{20001, 1000},
		{billion, 1000},
		{billion + 1, 1000},
		{18446744073710, 1000}, // a million of those wrap round to less than a slice
		{highest, 1000},
	} {
		for _, hi := range []int64{lowest, 0, x.lo, 15000, highest} {
			if z := Depth(well, span(x.lo, hi)); z != x.z {
				t.Errorf("of %d to %d: %d, not %d", x.lo, hi, z, x.z)
			}
		}
	}
}

// P18.1: Depth goes by the widest that the well may be, the others by both.
func TestBoundsThatLieApart(t *testing.T) {
	// a wedge: up to slice i it has at least 50 i (i - 1) nanolitres, at most 50 i (i + 1)
	p := pair{of(t, box(2000, 0, 1000, 20000, 1000)), of(t, thin(60000))}
	for _, x := range []struct{ v, depth, give, lo, hi int64 }{
		{0, -1000, 500, 0, 200},
		{1, -1000, 700, 0, 400}, // the least that its first slice has is nothing
		{99, -1000, 700, 0, 400},
		{100, -900, 700, 0, 400},
		{101, -900, 800, 0, 500},
		{299, -900, 800, 0, 500},
		{300, -800, 800, 0, 500},
		{599, -800, 900, 0, 600},
		{600, -700, 900, 100, 600},
		{601, -700, 1000, 100, 700},
		{7800, 200, 1800, 1000, 1500},
		{7801, 200, 1900, 1000, 1600},
		{9099, 200, 1900, 1000, 1600},
		{9100, 300, 1900, 1100, 1600},
		{9101, 300, 2000, 1100, 1700},
		{10499, 300, 2000, 1100, 1700},
		{10500, 400, 2000, 1200, 1700},
	} {
		if z := Depth(p.well, span(x.v, x.v)); z != x.depth {
			t.Errorf("Depth of %d: %d, not %d", x.v, z, x.depth)
		}
		if z, e := Give(p.well, span(x.v, x.v)); z != x.give || e != api.OK {
			t.Errorf("Give of %d: %d, %d, not %d", x.v, z, e, x.give)
		}
		if w := Window(p.well, span(x.v, x.v)); w != span(x.lo, x.hi) {
			t.Errorf("Window of %d: %v, not %d to %d", x.v, w, x.lo, x.hi)
		}
	}
	if z, e := Give(p.well, span(10501, 10501)); z != 0 || e != api.ErrRim {
		t.Errorf("Give of 10501: %d, %d", z, e)
	}
	if z, e := Draw(p.well, p.outer, 60000, span(9200, 9200), span(9099, 9100)); z != 0 || e != api.ErrDry {
		t.Errorf("Draw to 9099: %d, %d", z, e)
	}
	if z, e := Draw(p.well, p.outer, 60000, span(9200, 9200), span(9100, 9100)); z != 300 || e != api.OK {
		t.Errorf("Draw to 9100: %d, %d", z, e)
	}
}

// P18.1: ErrDry just while the tip's end would be below Clear.
func TestDrawOfTooLittle(t *testing.T) {
	outer := of(t, thin(60000))
	low, just, lifted, higher, high := of(t, even(1200)), of(t, even(1300)), of(t, even(1800)), of(t, even(1900)), of(t, even(10000))
	for _, x := range []struct {
		well *table.Table
		then api.Span
		z    int64
		e    api.Errno
	}{
		// an empty well
		{high, span(0, 0), 0, api.ErrDry},
		{high, span(lowest, 0), 0, api.ErrDry},
		{high, span(0, 20000), 0, api.ErrDry},
		{high, span(1000, 20000), 0, api.ErrDry},
		{high, span(10000, 20000), 0, api.ErrDry},
		{high, span(11999, 20000), 0, api.ErrDry},
		{high, span(12000, 20000), 0, api.ErrDry},
		{high, span(12999, 20000), 0, api.ErrDry},
		{high, span(12999, 12999), 0, api.ErrDry},
		{high, span(13000, 20000), 300, api.OK},
		{high, span(13000, 13000), 300, api.OK},
		{high, span(13001, 20000), 300, api.OK},
		{high, span(13999, 20000), 300, api.OK},
		{high, span(14000, 20000), 400, api.OK},
		{high, span(20000, 20000), 1000, api.OK},
		// as full as it may be, and lower
		{higher, span(12999, 12999), 0, api.ErrDry},
		{higher, span(13000, 13000), 300, api.OK},
		{higher, span(13999, 13999), 300, api.OK},
		// just too full with the little that the tip pushes aside
		{higher, span(14000, 14000), 0, api.ErrRim},
		{lifted, span(12999, 12999), 0, api.ErrDry},
		{lifted, span(13000, 13000), 0, api.ErrRim},
		// never high enough for the rim, or not even for the floor
		{just, span(12999, 13000), 0, api.ErrDry},
		{just, span(13000, 13000), 0, api.ErrRim},
		{low, span(12000, 12000), 0, api.ErrDry},
		{low, span(highest, highest), 0, api.ErrDry},
	} {
		if z, e := Draw(x.well, outer, 60000, span(x.then.Lo, x.then.Lo), x.then); z != x.z || e != x.e {
			t.Errorf("to %v of %d high: %d, %d, not %d, %d", x.then, x.well.Height(), z, e, x.z, x.e)
		}
	}
}

// P18.1: ErrRim just while the surface, with the tip in it, may be less than Rim below the rim.
func TestDrawOfTooMuch(t *testing.T) {
	// 1000 nanolitres a slice, room for 95000; the tip pushes 490 a slice aside
	well := of(t, even(10000))
	outer := of(t, box(60000, 700, 7000, 700, 7000))
	for _, x := range []struct {
		was, then int64
		z         int64
		e         api.Errno
	}{
		// the end at 5000: 30 slices of the tip push 14700 aside, 31 of them 15190
		{79001, 60000, 5000, api.OK},
		{80000, 60000, 5000, api.OK},
		{80001, 60000, 0, api.ErrRim},
		// the end at 5100: a slice of the tip less
		{80001, 61000, 5100, api.OK},
		{80299, 61000, 5100, api.OK},
		{80300, 61000, 5100, api.OK},
		{80301, 61000, 0, api.ErrRim},
		// ten slices of the tip, with all that was there; eleven, if there may have been more
		{89000, 89000, 7900, api.OK},
		{90000, 90000, 8000, api.OK},
		{90001, 90000, 0, api.ErrRim},
		{91000, 91000, 0, api.ErrRim},
		// without any tip it is too much
		{95001, 90000, 0, api.ErrRim},
		{100001, 60000, 0, api.ErrRim},
		{billion, 60000, 0, api.ErrRim},
		{billion + 1, 60000, 0, api.ErrRim},
		{18446744073710, 60000, 0, api.ErrRim},
		{highest, 60000, 0, api.ErrRim},
	} {
		if z, e := Draw(well, outer, 60000, span(x.then, x.was), span(x.then, x.then)); z != x.z || e != x.e {
			t.Errorf("of %d to %d: %d, %d, not %d, %d", x.was, x.then, z, e, x.z, x.e)
		}
	}
	// a tip that pushes next to nothing aside: the surface at 9500 is let through, at 9600 it isn't
	for _, x := range []struct {
		was, z int64
		e      api.Errno
	}{{94999, 9000, api.OK}, {95000, 0, api.ErrRim}, {94000, 9000, api.OK}} {
		if z, e := Draw(well, of(t, thin(60000)), 60000, span(0, x.was), span(100000, 0)); z != x.z || e != x.e {
			t.Errorf("of %d with a thin tip: %d, %d, not %d, %d", x.was, z, e, x.z, x.e)
		}
	}
}

// P18.1: ErrWet just while the tip may be wet above its filter.
func TestDrawOfTooDeep(t *testing.T) {
	// the end at 1000, the surface at 5000 without the tip, at 5100 with it: 4100 of it are wet
	well, outer := of(t, even(10000)), of(t, thin(60000))
	for _, x := range []struct {
		filter, z int64
		e         api.Errno
	}{
		{lowest, 0, api.ErrWet},
		{-4100, 0, api.ErrWet},
		{-1, 0, api.ErrWet},
		{0, 0, api.ErrWet},
		{1, 0, api.ErrWet},
		{3999, 0, api.ErrWet},
		{4000, 0, api.ErrWet},
		{4099, 0, api.ErrWet},
		{4100, 1000, api.OK},
		{4101, 1000, api.OK},
		{5100, 1000, api.OK},
		{60000, 1000, api.OK},
		{highest, 1000, api.OK},
	} {
		if z, e := Draw(well, outer, x.filter, span(49000, 50000), span(20000, 21000)); z != x.z || e != x.e {
			t.Errorf("of a filter of %d: %d, %d, not %d, %d", x.filter, z, e, x.z, x.e)
		}
	}
	// an end that is above all that was there isn't wet at all
	for _, x := range []struct {
		filter, z int64
		e         api.Errno
	}{{0, 1000, api.OK}, {-900, 1000, api.OK}, {-901, 0, api.ErrWet}, {-1000, 0, api.ErrWet}, {lowest, 0, api.ErrWet}} {
		if z, e := Draw(well, outer, x.filter, span(0, 1000), span(20000, 20000)); z != x.z || e != x.e {
			t.Errorf("above all, of a filter of %d: %d, %d, not %d, %d", x.filter, z, e, x.z, x.e)
		}
	}
}

// P18.1: of several errors the one that the chapter names first.
func TestDrawOfSeveralErrors(t *testing.T) {
	well, outer := of(t, even(10000)), of(t, thin(60000))
	for _, x := range []struct {
		filter    int64
		was, then api.Span
		e         api.Errno
	}{
		{-1, span(0, highest), span(0, highest), api.ErrDry},
		{60000, span(0, highest), span(0, highest), api.ErrDry},
		{-1, span(0, 50000), span(0, 50000), api.ErrDry},
		{-1, span(0, highest), span(50000, highest), api.ErrRim},
		{0, span(95000, 95000), span(90000, 90000), api.ErrRim},
		{-1, span(0, 50000), span(50000, 50000), api.ErrWet},
	} {
		if z, e := Draw(well, outer, x.filter, x.was, x.then); z != 0 || e != x.e {
			t.Errorf("Draw(%d, %v, %v): %d, %d, not %d", x.filter, x.was, x.then, z, e, x.e)
		}
	}
}

// P18.1: what was there at least and what is there then at most are no matter, whether the spans are right or not.
func TestDrawByTwoEnds(t *testing.T) {
	r := rand.New(rand.NewSource(1))
	for k, p := range pairs(t, 2, 30) {
		for range 20 {
			was, then, filter := span(0, pickFill(p.well, r)), span(pickFill(p.well, r), 0), r.Int63n(60001)
			z, e := Draw(p.well, p.outer, filter, was, then)
			for _, v := range []int64{lowest, -1, was.Hi, then.Lo, billion, highest, pickFill(p.well, r)} {
				if got, is := Draw(p.well, p.outer, filter, span(v, was.Hi), then); got != z || is != e {
					t.Errorf("of pair %d: %v and %v from %d on: %d, %d, not %d, %d", k, was, then, v, got, is, z, e)
				}
				if got, is := Draw(p.well, p.outer, filter, was, span(then.Lo, v)); got != z || is != e {
					t.Errorf("of pair %d: %v and %v up to %d: %d, %d, not %d, %d", k, was, then, v, got, is, z, e)
				}
			}
		}
	}
}

// P18.1: a height Gap above what may be there, ErrRim just while that, or the liquid's Rim, is above the rim.
func TestGive(t *testing.T) {
	lower, just, higher, high := of(t, even(400)), of(t, even(500)), of(t, even(600)), of(t, even(10000))
	for _, x := range []struct {
		well *table.Table
		hi   int64
		z    int64
		e    api.Errno
	}{
		{high, lowest, 500, api.OK},
		{high, -1, 500, api.OK},
		{high, 0, 500, api.OK},
		{high, 1, 600, api.OK},
		{high, 999, 600, api.OK},
		{high, 1000, 600, api.OK},
		{high, 1001, 700, api.OK},
		{high, 50000, 5500, api.OK},
		{high, 94000, 9900, api.OK},
		{high, 94001, 10000, api.OK},
		{high, 95000, 10000, api.OK},
		{high, 95001, 0, api.ErrRim},
		{high, 100000, 0, api.ErrRim},
		{high, 100001, 0, api.ErrRim},
		{high, billion, 0, api.ErrRim},
		{high, billion + 1, 0, api.ErrRim},
		{high, 18446744073710, 0, api.ErrRim}, // a million of those wrap round to less than a slice
		{high, highest, 0, api.ErrRim},
		{lower, lowest, 0, api.ErrRim},
		{lower, 0, 0, api.ErrRim},
		{lower, 1, 0, api.ErrRim},
		{just, lowest, 500, api.OK},
		{just, 0, 500, api.OK},
		{just, 1, 0, api.ErrRim},
		{just, 1000, 0, api.ErrRim},
		{higher, 0, 500, api.OK},
		{higher, 1000, 600, api.OK},
		{higher, 1001, 0, api.ErrRim},
	} {
		for _, lo := range []int64{lowest, 0, x.hi, 500, highest} {
			if z, e := Give(x.well, span(lo, x.hi)); z != x.z || e != x.e {
				t.Errorf("of %d to %d, %d high: %d, %d, not %d, %d", lo, x.hi, x.well.Height(), z, e, x.z, x.e)
			}
		}
	}
}

// P18.1: each end by its own, the lower one never below the floor.
func TestWindow(t *testing.T) {
	low, high := of(t, even(100)), of(t, even(10000))
	for _, x := range []struct {
		well    *table.Table
		s, want api.Span
	}{
		{high, span(0, 0), span(0, 200)},
		{high, span(lowest, lowest), span(0, 200)},
		{high, span(-1, -1), span(0, 200)},
		{high, span(0, 1), span(0, 300)},
		{high, span(999, 1000), span(0, 300)},
		{high, span(1000, 1001), span(0, 400)},
		{high, span(1999, 2000), span(0, 400)},
		{high, span(2000, 2000), span(0, 400)},
		{high, span(2999, 2999), span(0, 500)},
		{high, span(3000, 3000), span(100, 500)},
		{high, span(3000, 50000), span(100, 5200)},
		{high, span(50000, 50001), span(4800, 5300)},
		{high, span(99999, 99999), span(9700, 10200)},
		{high, span(100000, 100000), span(9800, 10200)},
		{high, span(100000, 100001), span(9800, 10300)},
		{high, span(highest, highest), span(9800, 10300)},
		{high, span(0, highest), span(0, 10300)},
		{high, span(lowest, highest), span(0, 10300)},
		// of spans that aren't right, too
		{high, span(50000, 3000), span(4800, 500)},
		{high, span(highest, lowest), span(9800, 200)},
		{low, span(0, 0), span(0, 200)},
		{low, span(999, 1000), span(0, 300)},
		{low, span(1000, 1001), span(0, 400)},
		{low, span(highest, highest), span(0, 400)},
	} {
		if got := Window(x.well, x.s); got != x.want {
			t.Errorf("of %v, %d high: %v, not %v", x.s, x.well.Height(), got, x.want)
		}
	}
}

// P18.1: of no table, whichever of them is missing.
func TestOfNoTable(t *testing.T) {
	made := of(t, even(10000))
	numbers := []int64{lowest, -1, 0, 1, 500, 50000, billion, highest}
	for _, v := range numbers {
		for _, s := range []api.Span{span(v, v), span(v, highest), span(lowest, v), span(highest, v), span(v, 0)} {
			if z := Depth(nil, s); z != 0 {
				t.Errorf("Depth of nil, %v: %d", s, z)
			}
			if w := Window(nil, s); w != span(0, 0) {
				t.Errorf("Window of nil, %v: %v", s, w)
			}
			if z, e := Give(nil, s); z != 0 || e != api.ErrRim {
				t.Errorf("Give of nil, %v: %d, %d", s, z, e)
			}
			for _, filter := range numbers {
				for _, p := range []pair{{nil, made}, {made, nil}, {nil, nil}} {
					if z, e := Draw(p.well, p.outer, filter, s, span(50000, 50000)); z != 0 || e != api.ErrDry {
						t.Errorf("Draw of nil, %d, %v: %d, %d", filter, s, z, e)
					}
					if z, e := Draw(p.well, p.outer, filter, span(50000, 50000), s); z != 0 || e != api.ErrDry {
						t.Errorf("Draw of nil, %d, to %v: %d, %d", filter, s, z, e)
					}
				}
			}
		}
	}
}

// P18.1: against heights that are gone through one by one, with numbers that can't run over.
func TestOthersOfMany(t *testing.T) {
	r := rand.New(rand.NewSource(3))
	for k, p := range pairs(t, 4, 60) {
		for _, v := range volumes(p.well, r) {
			other := volumes(p.well, r)[r.Intn(20)]
			for _, s := range []api.Span{span(v, v), span(v, other), span(other, v)} {
				if got, want := Depth(p.well, s), wantLow(p.well, s.Lo)-1000; got != want {
					t.Errorf("of pair %d: Depth(%v): %d, not %d", k, s, got, want)
				}
				z, e := Give(p.well, s)
				if want, is := wantGive(p, s); z != want || e != is {
					t.Errorf("of pair %d: Give(%v): %d, %d, not %d, %d", k, s, z, e, want, is)
				}
				want := span(max(wantLow(p.well, s.Lo)-200, 0), wantHigh(p.well, big.NewInt(s.Hi))+200)
				if got := Window(p.well, s); got != want {
					t.Errorf("of pair %d: Window(%v): %v, not %v", k, s, got, want)
				}
			}
		}
	}
}

// P18.1
func TestDrawOfMany(t *testing.T) {
	r := rand.New(rand.NewSource(5))
	counts := map[api.Errno]int{}
	for k, p := range pairs(t, 6, 120) {
		all := volumes(p.well, r)
		for range 60 {
			was, then := all[r.Intn(len(all))], all[r.Intn(len(all))]
			if r.Intn(2) == 0 {
				was, then = pickFill(p.well, r), pickFill(p.well, r)
				was, then = max(was, then), min(was, then)
			}
			// about as much as the tip may be wet, and far from it
			wet := wantSurface(p, was, max(wantLow(p.well, then)-1000, 300)) - (wantLow(p.well, then) - 1000)
			for _, filter := range []int64{wet - 1, wet, wet + 1, 60000, r.Int63n(60001), lowest, highest} {
				a, b := span(all[r.Intn(len(all))], was), span(then, all[r.Intn(len(all))])
				z, e := Draw(p.well, p.outer, filter, a, b)
				counts[e]++
				if want, is := wantDraw(p, filter, a, b); z != want || e != is {
					t.Errorf("of pair %d: Draw(%d, %v, %v): %d, %d, not %d, %d", k, filter, a, b, z, e, want, is)
				}
			}
		}
	}
	for _, e := range []api.Errno{api.OK, api.ErrDry, api.ErrRim, api.ErrWet} {
		if counts[e] < 1000 {
			t.Errorf("too few were %d: %d", e, counts[e])
		}
	}
}

// P18.1: a tip is too low just where too little stays, a well too full just where there is no room.
func TestByWhatMustStay(t *testing.T) {
	r := rand.New(rand.NewSource(7))
	for k, p := range pairs(t, 8, 60) {
		for _, v := range volumes(p.well, r) {
			_, e := Draw(p.well, p.outer, 60000, span(0, 0), span(v, v))
			if enough := dead.Enough(p.well, v); (e == api.ErrDry) == enough {
				t.Errorf("of pair %d: of %d: %d, and Enough is %v", k, v, e, enough)
			}
			_, e = Give(p.well, span(v, v))
			if room := dead.Room(p.well, v); (e == api.OK) != room {
				t.Errorf("of pair %d: of %d: %d, and Room is %v", k, v, e, room)
			}
		}
	}
}

// P18.2: where what stays is enough, and there is room for what was there with all of the tip, no stroke is refused to a tip that may be wet as high as the well is.
func TestNoneIsRefusedForNothing(t *testing.T) {
	r := rand.New(rand.NewSource(9))
	taken := 0
	for k, p := range pairs(t, 10, 250) {
		least, enough := dead.Volume(p.well)
		most, may := dead.Limit(p.well)
		was := most - tip.Push(p.outer, p.outer.Height())
		if !enough || !may || was < least {
			continue
		}
		for _, then := range []int64{least, was, least + r.Int63n(was-least+1)} {
			taken++
			if z, e := Draw(p.well, p.outer, p.well.Height()+100, span(then, was), span(then, then)); e != api.OK {
				t.Errorf("of pair %d: of %d to %d: %d, %d", k, was, then, z, e)
			}
		}
	}
	if taken < 100 {
		t.Errorf("too few were tried: %d", taken)
	}
}

// between is one of s: often its ends.
func between(s api.Span, r *rand.Rand) int64 {
	switch r.Intn(3) {
	case 0:
		return s.Lo
	case 1:
		return s.Hi
	}
	return s.Lo + r.Int63n(s.Hi-s.Lo+1)
}

// safe tells what is wrong with the tip's end at z while there is v, "" if nothing is.
func safe(p pair, filter, v, z, part int64) string {
	surface := tip.Truth(p.well, p.outer, v, z, part)
	switch {
	case z < 300:
		return "it touches the floor"
	case level.True(p.well, v, part) < z+1000:
		return "it draws air"
	case surface > p.well.Height()-500:
		return "it runs over"
	case surface-z > filter:
		return "it is wet above its filter"
	}
	return ""
}

// P18.2: whatever was there, whatever is drawn of it, wherever between its bounds the well is: from the first to the last of a stroke the tip is deep enough, and not too deep.
func TestDrawsAreSafe(t *testing.T) {
	r := rand.New(rand.NewSource(11))
	taken := 0
	for k, p := range pairs(t, 12, 150) {
		for range 30 {
			middle, tol := pickFill(p.well, r), r.Int63n(1000)
			was := span(max(middle-tol, 0), middle+tol)
			v, off, filter := r.Int63n(was.Lo/4+1), r.Int63n(50), 1000+r.Int63n(20000)
			stroke := span(max(v-off, 0), v+off)
			then := span(was.Lo-stroke.Hi, was.Hi-stroke.Lo)
			z, e := Draw(p.well, p.outer, filter, was, then)
			if e != api.OK {
				continue
			}
			taken++
			for range 10 {
				there, drawn, part := between(was, r), between(stroke, r), between(span(0, 1000), r)
				for _, now := range []int64{there, there - drawn/2, there - drawn} {
					if wrong := safe(p, filter, now, z, part); wrong != "" {
						t.Errorf("of pair %d: %v to %v at %d, truly %d, part %d: %s", k, was, then, z, now, part, wrong)
					}
				}
			}
		}
	}
	if taken < 500 {
		t.Errorf("too few were drawn: %d", taken)
	}
}

// P18.2: it is no deeper than it must be: a slice higher the tip would draw air in the widest that the well may be.
func TestDepthIsTheHighest(t *testing.T) {
	r := rand.New(rand.NewSource(13))
	for k, p := range pairs(t, 14, 60) {
		for range 30 {
			v := pickFill(p.well, r)
			z := Depth(p.well, span(v, highest))
			if h := level.True(p.well, v, 1000); h >= z+1000+100 && h <= p.well.Height() {
				t.Errorf("of pair %d: of %d: %d, and liquid stands at %d at least", k, v, z, h)
			}
		}
	}
}

// P18.2: whatever is there then: the tip's end is Gap above it, no more than a slice higher than it must be, within the well, and nothing runs over.
func TestGivesAreSafe(t *testing.T) {
	r := rand.New(rand.NewSource(15))
	taken := 0
	for k, p := range pairs(t, 16, 100) {
		for range 30 {
			v := pickFill(p.well, r)
			then := span(v/2, v)
			z, e := Give(p.well, then)
			if e != api.OK {
				continue
			}
			taken++
			for range 10 {
				now, part := between(then, r), between(span(0, 1000), r)
				h := level.True(p.well, now, part)
				if z < h+500 || z < 300 || z > p.well.Height() || h > p.well.Height()-500 {
					t.Errorf("of pair %d: %v at %d of %d, truly at %d", k, then, z, p.well.Height(), h)
				}
			}
			if h := level.True(p.well, v, 0); z > h+500+100 {
				t.Errorf("of pair %d: %v at %d, and liquid stands at %d at most", k, then, z, h)
			}
		}
	}
	if taken < 500 {
		t.Errorf("too few were given: %d", taken)
	}
}

// P18.2: whatever is there, a reading of it that is off by no more than Sensor is in the window, and hardly anything else is.
func TestReadingsAreInTheWindow(t *testing.T) {
	r := rand.New(rand.NewSource(17))
	for k, p := range pairs(t, 18, 100) {
		for range 30 {
			v := pickFill(p.well, r)
			s := span(v-v/3, v)
			w := Window(p.well, s)
			for range 10 {
				now, part, off := between(s, r), between(span(0, 1000), r), between(span(-200, 200), r)
				if read := max(level.True(p.well, now, part)+off, 0); read < w.Lo || read > w.Hi {
					t.Errorf("of pair %d: %v has %v, and %d is read", k, s, w, read)
				}
			}
			if h := level.True(p.well, s.Lo, 1000); h <= p.well.Height() && w.Lo < h-200-100 {
				t.Errorf("of pair %d: %v has %v, and liquid stands at %d at least", k, s, w, h)
			}
			if h := level.True(p.well, s.Hi, 0); w.Hi > h+200+100 {
				t.Errorf("of pair %d: %v has %v, and liquid stands at %d at most", k, s, w, h)
			}
		}
	}
}

// truth is what a track's wells and tip really have.
type truth struct {
	state *track.State
	wells []int64
	tip   int64
}

// draw makes one stroke, if zplan lets it, and tells what is wrong with it.
func (u *truth) draw(p pair, x api.Tip, i int, v, part int64, r *rand.Rand) (string, bool) {
	next := u.state.Clone()
	was, _ := next.At(i)
	if !next.Draw(i, v, x.Err) {
		return "", false
	}
	then, _ := next.At(i)
	z, e := Draw(p.well, p.outer, x.Filter, was, then)
	if e != api.OK {
		return "", false
	}
	window := Window(p.well, was)
	if h := level.True(p.well, u.wells[i], part); h < window.Lo || h > window.Hi {
		return "it isn't where it is looked for", true
	}
	wrong := safe(p, x.Filter, u.wells[i], z, part)
	drawn := max(v+between(span(-x.Err, x.Err), r), 0)
	u.state, u.wells[i], u.tip = next, u.wells[i]-drawn, u.tip+drawn
	if wrong == "" {
		wrong = safe(p, x.Filter, u.wells[i], z, part)
	}
	return wrong, true
}

// give gives all, if zplan lets it, and tells what is wrong with it.
func (u *truth) give(p pair, i int, part int64) (string, bool) {
	next := u.state.Clone()
	next.Give(i)
	then, _ := next.At(i)
	z, e := Give(p.well, then)
	if e != api.OK {
		return "", false
	}
	u.state, u.wells[i], u.tip = next, u.wells[i]+u.tip, 0
	if h := level.True(p.well, u.wells[i], part); h > z-500 || h > p.well.Height()-500 {
		return "it is wet, or runs over", true
	}
	return "", true
}

// P18.2: by what may be in wells as a track has it, behind many strokes, each truly off by its own.
func TestSafeBehindManyStrokes(t *testing.T) {
	shape := list(round(2000, 1000, 6000), box(9000, 7000, 7000, 8000, 8000))
	x := api.Tip{Name: "t", Cap: 100000, Filter: 9000, Err: 20, Outer: list(round(5000, 500, 900), round(40000, 900, 5000))}
	d := api.Deck{Wares: []api.Ware{{Name: "p", Rows: 2, Cols: 3, Tol: 500, Shape: shape}}, Tips: []api.Tip{x}}
	for i := range 4 {
		d.Fills = append(d.Fills, api.Fill{W: api.Well{Ware: "p", Row: i / 3, Col: i % 3}, V: 150000 + 50000*int64(i)})
	}
	b, e := deck.New(d)
	if e != api.OK {
		t.Fatalf("deck.New: %d", e)
	}
	p := pair{of(t, shape...), of(t, x.Outer...)}
	r := rand.New(rand.NewSource(19))
	drew, gave := 0, 0
	for range 60 {
		u, part := &truth{state: track.New(b)}, between(span(0, 1000), r)
		for _, s := range b.Start() {
			u.wells = append(u.wells, between(s, r))
		}
		for range 200 {
			wrong, ok := u.draw(p, x, r.Intn(6), 1+r.Int63n(30000), part, r)
			if ok {
				drew++
			}
			if wrong != "" {
				t.Fatalf("a draw of part %d: %s", part, wrong)
			}
			wrong, ok = u.give(p, r.Intn(6), part)
			if ok {
				gave++
			}
			if wrong != "" {
				t.Fatalf("a give of part %d: %s", part, wrong)
			}
		}
	}
	if drew < 3000 || gave < 3000 {
		t.Errorf("too few were drawn and given: %d, %d", drew, gave)
	}
}

// tell is much that is answered of a pair.
func tell(p pair) string {
	var text []byte
	put := func(l ...int64) {
		for _, x := range l {
			text = append(strconv.AppendInt(text, x, 10), ' ')
		}
	}
	for v := int64(-1); v < p.well.High(p.well.Slices())/1000000+2; v += v/3 + 1 {
		s := span(v/2, v)
		w := Window(p.well, s)
		put(Depth(p.well, s), w.Lo, w.Hi)
		z, e := Give(p.well, s)
		put(z, int64(e))
		for filter := int64(0); filter < 60000; filter += filter + 1000 {
			z, e := Draw(p.well, p.outer, filter, span(0, v), s)
			put(z, int64(e))
		}
	}
	return string(text)
}

// P18.1, and DOC.md's eighth rule: the answers hang on the arguments alone, asked again, of like tables, by many at once.
func TestSameAgain(t *testing.T) {
	others := pairs(t, 20, 10)
	for k, p := range pairs(t, 20, 10) {
		told := tell(p)
		if tell(p) != told || tell(others[k]) != told {
			t.Errorf("pair %d isn't the same again", k)
		}
		var all sync.WaitGroup
		got := make([]string, 4)
		for i := range got {
			all.Go(func() { got[i] = tell(p) })
		}
		all.Wait()
		for _, text := range got {
			if text != told {
				t.Errorf("pair %d isn't the same for many at once", k)
			}
		}
	}
}
