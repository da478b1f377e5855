package tip

import (
	"math"
	"math/big"
	"math/rand"
	"slices"
	"strconv"
	"strings"
	"sync"
	"testing"

	"dipper/api"
	"dipper/level"
	"dipper/table"
)

const (
	lowest  = math.MinInt64
	highest = math.MaxInt64
)

func round(h, a0, a1 int64) api.Section { return api.Section{Round: true, H: h, A0: a0, A1: a1} }

func box(h, a0, b0, a1, b1 int64) api.Section {
	return api.Section{H: h, A0: a0, B0: b0, A1: a1, B1: b1}
}

func list(s ...api.Section) []api.Section { return s }

func of(t *testing.T, s ...api.Section) *table.Table {
	t.Helper()
	made, e := table.Of(s)
	if e != api.OK {
		t.Fatalf("table.Of(%v): %d", s, e)
	}
	return made
}

// good is a tip that is Right, new each time.
func good() api.Tip {
	return api.Tip{Name: "t1", Cap: 1000, Filter: 20000, Err: 5, Outer: list(round(100, 400, 500), box(200, 500, 500, 600, 700))}
}

// pickShape is one that is Right, of sides up to side.
func pickShape(r *rand.Rand, side int64) []api.Section {
	var s []api.Section
	for range 1 + r.Intn(4) {
		x := box(100*(1+r.Int63n(40)), r.Int63n(side+1), r.Int63n(side+1), 1+r.Int63n(side), 1+r.Int63n(side))
		if r.Intn(2) == 0 {
			x = round(x.H, x.A0, x.A1)
		}
		s = append(s, x)
	}
	return s
}

// pair is a well and what dips into it.
type pair struct{ well, outer *table.Table }

func pairs(t *testing.T, seed int64) []pair {
	t.Helper()
	all := []pair{
		{of(t, box(100, 20000, 20000, 20000, 20000)), of(t, box(60000, 20000, 20000, 20000, 20000))},
		{of(t, box(60000, 20000, 20000, 20000, 20000)), of(t, box(60000, 20000, 20000, 20000, 20000))},
		{of(t, box(60000, 0, 20000, 20000, 1)), of(t, round(100, 0, 1))},
		// its lower bounds are noughts: nothing is ever high enough for them
		{of(t, round(1000, 1, 1)), of(t, round(1000, 300, 900))},
		{of(t, round(30000, 20000, 1), box(30000, 1, 1, 20000, 20000)), of(t, round(60000, 0, 9000))},
	}
	r := rand.New(rand.NewSource(seed))
	for range 60 {
		well := []int64{900, 5000, 20000}[r.Intn(3)]
		outer := []int64{300, 2000, 20000}[r.Intn(3)]
		all = append(all, pair{of(t, pickShape(r, well)...), of(t, pickShape(r, outer)...)})
	}
	return all
}

// volumes are those at which a well's level may turn over, and some between.
func volumes(p pair, r *rand.Rand) []int64 {
	all := []int64{lowest, lowest + 1, -30000000, -1000, -1, 0, 1, 999999999, 1000000000, 1000000001, highest - 24000001, highest - 1, highest}
	for range 8 {
		i := r.Intn(p.well.Slices() + 1)
		for _, x := range []int64{p.well.Low(i), p.well.High(i)} {
			all = append(all, x/1000000-1, x/1000000, x/1000000+1)
		}
	}
	for range 8 {
		v := r.Int63n(p.well.High(p.well.Slices())/1000000 + 2)
		// and such that only what is pushed aside makes something of them
		all = append(all, v, -r.Int63n(p.outer.High(p.outer.Slices())/1000000+2))
	}
	return all
}

// ends are heights of a tip's end about a level, and far off.
func ends(p pair, h int64, r *rand.Rand) []int64 {
	all := []int64{lowest, lowest + 1, -60001, -100, -1, 0, 1, h - 1, h, h + 1, highest - 1, highest}
	for range 6 {
		d := r.Int63n(p.outer.Height() + 200)
		all = append(all, h-d, h-d/100*100, h-d/100*100-1)
	}
	return all
}

func parts(r *rand.Rand) []int64 {
	return []int64{lowest, -1, 0, 1, 500, 999, 1000, 1001, highest, r.Int63n(1001)}
}

// wantDepth is h less z, as a height of a tip: more than any tip's is the most.
func wantDepth(h, z int64) int64 {
	d := new(big.Int).Sub(big.NewInt(h), big.NewInt(z))
	if d.Sign() < 0 {
		return 0
	}
	if !d.IsInt64() {
		return 60000
	}
	return d.Int64()
}

// wantTogether is the sum as chapter 5 counts it: from 0 to 10^9.
func wantTogether(v, pushed int64) int64 {
	sum := new(big.Int).Add(big.NewInt(v), big.NewInt(pushed))
	if sum.Sign() < 0 {
		return 0
	}
	if sum.Cmp(big.NewInt(1000000000)) > 0 {
		return 1000000000
	}
	return sum.Int64()
}

func wantSurface(p pair, v, z int64) int64 {
	pushed := level.Volume(p.outer, wantDepth(level.High(p.well, v), z), true)
	return level.High(p.well, wantTogether(v, pushed))
}

func wantTruth(p pair, v, z, part int64) int64 {
	pushed := level.Volume(p.outer, wantDepth(level.True(p.well, v, part), z), false)
	return level.True(p.well, wantTogether(v, pushed), part)
}

// P7.1: each number at its ends, and one past them.
func TestRightOfNumbers(t *testing.T) {
	if !Right(good()) {
		t.Fatalf("Right(%v): false", good())
	}
	for _, x := range []struct {
		name        string
		field       func(*api.Tip) *int64
		least, most int64
	}{
		{"Cap", func(x *api.Tip) *int64 { return &x.Cap }, 1, 20000000},
		{"Filter", func(x *api.Tip) *int64 { return &x.Filter }, 1, 60000},
		{"Err", func(x *api.Tip) *int64 { return &x.Err }, 0, 10000},
	} {
		for _, v := range []int64{lowest, -20000000, -1, 0, 1, 2, x.least - 1, x.least, x.least + 1, x.most - 1, x.most, x.most + 1, highest} {
			tip := good()
			*x.field(&tip) = v
			if got := Right(tip); got != (v >= x.least && v <= x.most) {
				t.Errorf("%s %d: %v", x.name, v, got)
			}
		}
	}
}

// P7.1: a tip may take less than its error is, and be wet higher than it is long.
func TestRightOfNumbersTogether(t *testing.T) {
	tip := api.Tip{Name: "a", Cap: 1, Filter: 60000, Err: 10000, Outer: list(box(100, 0, 0, 1, 1))}
	if !Right(tip) {
		t.Errorf("Right(%v): false", tip)
	}
	tip = api.Tip{Name: "a", Cap: 20000000, Filter: 1, Err: 0, Outer: list(round(60000, 0, 20000))}
	if !Right(tip) {
		t.Errorf("Right(%v): false", tip)
	}
	if Right(api.Tip{}) {
		t.Error("Right of no tip")
	}
}

// P7.1
func TestRightOfNames(t *testing.T) {
	for _, x := range []struct {
		name string
		want bool
	}{
		{"", false},
		{"a", true},
		{"z", true},
		{"tip", true},
		{"a0", true},
		{"z9z", true},
		{"0", false},
		{"9a", false},
		{"A", false},
		{"aB", false},
		{"a.b", false},
		{"a b", false},
		{" a", false},
		{"a ", false},
		{"a_b", false},
		{"a\n", false},
		{"a\x00", false},
		{"\u00e4", false},
		{"a\u00e4", false},
		{"a\u0661", false}, // a digit, but none from 0 to 9
		{"a\xff", false},
		{"abcdefghijklmno", true},
		{"abcdefghijklmnop", true},
		{"abcdefghijklmnopq", false},
		{"a234567890123456", true},
		{"a2345678901234567", false},
		{"abcdefghijklmnoP", false},
		{strings.Repeat("a", 1000), false},
	} {
		tip := good()
		tip.Name = x.name
		if got := Right(tip); got != x.want {
			t.Errorf("of %q: %v", x.name, got)
		}
	}
}

// P7.1: each byte, first, in between and last.
func TestRightOfNamesOfEachByte(t *testing.T) {
	const letters, digits = "abcdefghijklmnopqrstuvwxyz", "0123456789"
	for i := range 256 {
		c := string([]byte{byte(i)})
		first, later := strings.Contains(letters, c), strings.Contains(letters+digits, c)
		for _, x := range []struct {
			name string
			want bool
		}{{c, first}, {c + "a", first}, {c + "0", first}, {"a" + c, later}, {"a" + c + "0", later}, {"abcdefghijklmno" + c, later}} {
			tip := good()
			tip.Name = x.name
			if got := Right(tip); got != x.want {
				t.Errorf("of %q: %v", x.name, got)
			}
		}
	}
}

// P7.1: whatever shape isn't Right makes no tip.
func TestRightOfShapes(t *testing.T) {
	one := round(100, 0, 1)
	for _, x := range []struct {
		s    []api.Section
		want bool
	}{
		{nil, false},
		{list(), false},
		{list(one), true},
		{list(one, one, one, one), true},
		{list(one, one, one, one, one), false},
		{list(box(100, 0, 0, 1, 1)), true},
		{list(box(100, 0, 0, 1, 0)), false},
		{list(box(100, 0, 0, 0, 1)), false},
		{list(box(50, 1, 1, 1, 1)), false},
		{list(box(0, 1, 1, 1, 1)), false},
		{list(box(-100, 1, 1, 1, 1)), false},
		{list(round(60000, 0, 20000)), true},
		{list(round(60100, 0, 20000)), false},
		{list(round(60000, 0, 20001)), false},
		{list(round(60000, -1, 20000)), false},
		{list(round(60000, 0, 20000), one), false},
		{list(one, round(100, 1, 0)), false},
		{list(api.Section{Round: true, H: 100, A0: 1, A1: 1, B1: 1}), false},
	} {
		tip := good()
		tip.Outer = x.s
		if got := Right(tip); got != x.want {
			t.Errorf("of %v: %v", x.s, got)
		}
	}
}

// P7.1: of what a tip pushes aside, the upper bound of the slice that its depth reaches into.
func TestPush(t *testing.T) {
	// nanolitres: upper bounds 0, 10, 30, 60; lower bounds 0, 0, 10, 30
	wedge := of(t, box(300, 0, 1000, 300, 1000))
	// a cubic micrometre and a nanolitre a slice
	more := of(t, box(100, 1, 1, 1, 1), box(100, 100, 100, 100, 100))
	for _, x := range []struct{ depth, wedge, more int64 }{
		{lowest, 0, 0},
		{lowest + 1, 0, 0},
		{-60000, 0, 0},
		{-101, 0, 0},
		{-100, 0, 0},
		{-99, 0, 0},
		{-1, 0, 0},
		{0, 0, 0},
		{1, 10, 1},
		{99, 10, 1},
		{100, 10, 1},
		{101, 30, 2},
		{200, 30, 2},
		{201, 60, 2},
		{300, 60, 2},
		{301, 60, 2},
		{60001, 60, 2},
		{highest - 99, 60, 2},
		{highest, 60, 2},
	} {
		if w, m := Push(wedge, x.depth), Push(more, x.depth); w != x.wedge || m != x.more {
			t.Errorf("Push at %d: %d, %d, not %d, %d", x.depth, w, m, x.wedge, x.more)
		}
	}
}

// P7.1: the greatest tip, and many others.
func TestPushOfMany(t *testing.T) {
	if got := Push(of(t, box(60000, 20000, 20000, 20000, 20000)), highest); got != 24000000 {
		t.Errorf("Push of the greatest: %d", got)
	}
	r := rand.New(rand.NewSource(1))
	for _, p := range pairs(t, 2) {
		for _, depth := range append(ends(p, 0, r), ends(p, 30000, r)...) {
			want := int64(0)
			if depth > 0 {
				want = level.Volume(p.outer, depth, true)
			}
			if got := Push(p.outer, depth); got != want {
				t.Errorf("Push at %d: %d, not %d", depth, got, want)
			}
		}
	}
}

// P7.2: what is pushed aside is a little more, or less, than the tip's true volume.
func TestSurfaceAndTruthOfAWedge(t *testing.T) {
	// 100 nanolitres a slice; the tip's upper bounds 0, 10, 30, 60, its lower ones 0, 0, 10, 30
	p := pair{of(t, box(1000, 1000, 1000, 1000, 1000)), of(t, box(300, 0, 1000, 300, 1000))}
	for _, x := range []struct{ v, z, surface, truth int64 }{
		{290, highest, 300, 290},
		{290, 301, 300, 290},
		{290, 300, 300, 290},
		{290, 299, 300, 290},
		{291, 299, 400, 291},
		{290, 200, 300, 290},
		{290, 199, 400, 290},
		{290, 91, 400, 290},
		{290, 90, 400, 300},
		{290, -9, 400, 300},
		{290, -10, 400, 320},
		{290, lowest, 400, 320},
		{0, 0, 0, 0},
		{0, -1, 100, 0},
		{0, -200, 100, 10},
		{0, lowest, 100, 30},
		{-20, -200, 100, 0},
		{-60, -300, 0, 0},
		{-59, -300, 100, 0},
		{-29, -300, 100, 1},
		{990, 0, 1100, 1001},
		{970, 0, 1100, 1000},
		{971, 0, 1100, 1001},
		{5000, 1100, 1100, 1001},
		{highest, 1000, 1100, 1001},
		{highest, lowest, 1100, 1001},
		{lowest, lowest, 0, 0},
	} {
		surface, truth := Surface(p.well, p.outer, x.v, x.z), Truth(p.well, p.outer, x.v, x.z, 500)
		if surface != x.surface || truth != x.truth {
			t.Errorf("of %d, the end at %d: %d, %d, not %d, %d", x.v, x.z, surface, truth, x.surface, x.truth)
		}
	}
}

// P7.2: Surface goes by the highest level, Truth by the true one of its part.
func TestSurfaceAndTruthOfAPart(t *testing.T) {
	// nanolitres: lower bounds 0, 0, 500, 1500; upper bounds 0, 500, 1500, 3000; the tip has 100 a slice
	p := pair{of(t, box(300, 0, 1000, 15000, 1000)), of(t, box(300, 1000, 1000, 1000, 1000))}
	for _, x := range []struct{ z, surface, least, half, most int64 }{
		{200, 200, 200, 133, 100},
		{199, 300, 200, 133, 100},
		{101, 300, 200, 133, 100},
		{100, 300, 210, 133, 100},
		{34, 300, 210, 133, 100},
		{33, 300, 210, 146, 100},
		{1, 300, 210, 146, 100},
		{0, 300, 220, 146, 110},
		{-100, 300, 230, 160, 120},
		{lowest, 300, 230, 173, 130},
	} {
		surface := Surface(p.well, p.outer, 500, x.z)
		least, half, most := Truth(p.well, p.outer, 500, x.z, 0), Truth(p.well, p.outer, 500, x.z, 500), Truth(p.well, p.outer, 500, x.z, 1000)
		if surface != x.surface || least != x.least || half != x.half || most != x.most {
			t.Errorf("the end at %d: %d, %d, %d, %d, not %d, %d, %d, %d", x.z, surface, least, half, most, x.surface, x.least, x.half, x.most)
		}
		if Truth(p.well, p.outer, 500, x.z, -1) != least || Truth(p.well, p.outer, 500, x.z, lowest) != least || Truth(p.well, p.outer, 500, x.z, 1001) != most || Truth(p.well, p.outer, 500, x.z, highest) != most {
			t.Errorf("the end at %d: a part outside isn't the nearest", x.z)
		}
	}
}

// P7.2
func TestSurfaceOfMany(t *testing.T) {
	r := rand.New(rand.NewSource(3))
	for k, p := range pairs(t, 4) {
		for _, v := range volumes(p, r) {
			for _, z := range ends(p, level.High(p.well, v), r) {
				if got, want := Surface(p.well, p.outer, v, z), wantSurface(p, v, z); got != want {
					t.Errorf("of pair %d: Surface(%d, %d): %d, not %d", k, v, z, got, want)
				}
			}
		}
	}
}

// P7.2
func TestTruthOfMany(t *testing.T) {
	r := rand.New(rand.NewSource(5))
	for k, p := range pairs(t, 6) {
		for _, v := range volumes(p, r) {
			for _, part := range parts(r) {
				for _, z := range ends(p, level.True(p.well, v, part), r) {
					if got, want := Truth(p.well, p.outer, v, z, part), wantTruth(p, v, z, part); got != want {
						t.Errorf("of pair %d: Truth(%d, %d, %d): %d, not %d", k, v, z, part, got, want)
					}
				}
			}
		}
	}
}

// P7.1, P7.2: of no table, whichever of them is missing.
func TestOfNoTable(t *testing.T) {
	made := of(t, box(1000, 1000, 1000, 1000, 1000))
	numbers := []int64{lowest, -100, -1, 0, 1, 100, 500, highest}
	for _, v := range numbers {
		if Push(nil, v) != 0 {
			t.Errorf("Push(nil, %d): %d", v, Push(nil, v))
		}
		for _, z := range numbers {
			for _, p := range []pair{{nil, made}, {made, nil}, {nil, nil}} {
				if got := Surface(p.well, p.outer, v, z); got != 0 {
					t.Errorf("Surface of nil, %d, %d: %d", v, z, got)
				}
				for _, part := range []int64{-1, 0, 500, 1000, 1001} {
					if got := Truth(p.well, p.outer, v, z, part); got != 0 {
						t.Errorf("Truth of nil, %d, %d, %d: %d", v, z, part, got)
					}
				}
			}
		}
	}
}

// P7.3: with a tip in it liquid stands no lower, the deeper the tip the higher; above the liquid a tip does nothing.
func TestTipsLift(t *testing.T) {
	r := rand.New(rand.NewSource(7))
	lifted, lifts := 0, 0
	for k, p := range pairs(t, 8) {
		for _, v := range volumes(p, r) {
			part := r.Int63n(1001)
			high, now := level.High(p.well, v), level.True(p.well, v, part)
			if Surface(p.well, p.outer, v, high) != high || Surface(p.well, p.outer, v, highest) != high {
				t.Errorf("of pair %d: %d is lifted from above", k, v)
			}
			if Truth(p.well, p.outer, v, now, part) != now || Truth(p.well, p.outer, v, highest, part) != now {
				t.Errorf("of pair %d: %d is truly lifted from above", k, v)
			}
			zs := ends(p, high, r)
			slices.SortFunc(zs, func(a, b int64) int { return -compare(a, b) })
			lastSurface, lastTruth := high, now
			for _, z := range zs {
				surface, truth := Surface(p.well, p.outer, v, z), Truth(p.well, p.outer, v, z, part)
				if surface < lastSurface || truth < lastTruth {
					t.Errorf("of pair %d: of %d, the end at %d: %d, %d, below %d, %d", k, v, z, surface, truth, lastSurface, lastTruth)
				}
				lastSurface, lastTruth = surface, truth
			}
			if lastSurface > high {
				lifted++
			}
			if lastTruth > now {
				lifts++
			}
		}
	}
	if lifted < 500 || lifts < 500 {
		t.Errorf("too few were lifted: %d, %d", lifted, lifts)
	}
}

func compare(a, b int64) int {
	if a < b {
		return -1
	}
	if a > b {
		return 1
	}
	return 0
}

// P7.2, P7.3: wherever between its bounds a well is, with the same tip at the same height no true surface is higher than Surface.
func TestNoTruthIsAboveSurface(t *testing.T) {
	r := rand.New(rand.NewSource(9))
	for k, p := range pairs(t, 10) {
		for _, v := range volumes(p, r) {
			for _, z := range ends(p, level.High(p.well, v), r) {
				surface := Surface(p.well, p.outer, v, z)
				for part := int64(0); part <= 1000; part += 250 {
					if truth := Truth(p.well, p.outer, v, z, part); truth > surface {
						t.Errorf("of pair %d: Truth(%d, %d, %d): %d, above %d", k, v, z, part, truth, surface)
					}
				}
			}
		}
	}
}

// P7.1, and DOC.md's third rule: a tip's shape isn't changed, the spare room behind it included, and what stands in that room counts for nothing.
func TestShapesAreLeftAlone(t *testing.T) {
	whole := list(round(100, 1, 2), box(200, 3, 4, 5, 6), round(-1, 9, 9))
	before := slices.Clone(whole)
	tip := good()
	tip.Outer = whole[:2]
	if !Right(tip) {
		t.Errorf("the room behind %v counts", tip.Outer)
	}
	if !slices.Equal(whole, before) {
		t.Errorf("%v was changed: %v", before, whole)
	}
}

// tell is much that is answered of a pair.
func tell(p pair) string {
	var text []byte
	for v := int64(-1); v < p.well.High(p.well.Slices())/1000000+2; v += v/3 + 1 {
		for z := int64(-300); z < 60000; z += z*z/3 + 100 {
			for _, h := range []int64{Push(p.outer, z), Surface(p.well, p.outer, v, z), Truth(p.well, p.outer, v, z, 77), Truth(p.well, p.outer, v, z, 5000)} {
				text = strconv.AppendInt(text, h, 10)
				text = append(text, ' ')
			}
		}
	}
	return string(text)
}

// P7.1, P7.2, and DOC.md's eighth rule: the answers hang on the arguments alone, asked again, of like tables, by many at once.
func TestSameAgain(t *testing.T) {
	others := pairs(t, 11)
	for k, p := range pairs(t, 11) {
		told := tell(p)
		if tell(p) != told || tell(others[k]) != told {
			t.Errorf("pair %d isn't the same again", k)
		}
		var all sync.WaitGroup
		got := make([]string, 4)
		for i := range got {
			all.Go(func() { got[i] = tell(p) })
		}
		all.Wait()
		for _, text := range got {
			if text != told {
				t.Errorf("pair %d isn't the same for many at once", k)
			}
		}
	}
}
