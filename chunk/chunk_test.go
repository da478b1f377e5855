package chunk

import (
	"fmt"
	"math"
	"math/rand"
	"reflect"
	"slices"
	"strings"
	"sync"
	"testing"

	"dipper/api"
	"dipper/deck"
	"dipper/source"
)

const (
	lowest    = math.MinInt64
	highest   = math.MaxInt64
	maxVolume = 20000000
	maxErr    = 10000
	maxOps    = 1000
	strokesOf = 4
)

// tipOf is one that is Right, if its numbers are.
func tipOf(most, err int64) api.Tip {
	return api.Tip{Name: "t1", Cap: most, Filter: 20000, Err: err, Outer: []api.Section{{H: 5000, A0: 500, B0: 500, A1: 700, B1: 700}, {Round: true, H: 100, A0: 900, A1: 1000}}}
}

// deal gives out v nanolitres one by one, over and over to n.
func deal(v, n int64) []int64 {
	l := make([]int64, n)
	for k := range v {
		l[k%n]++
	}
	return l
}

// wantParts looks for the number of parts from 1 on.
func wantParts(most, err, v int64) ([]int64, api.Errno) {
	if v < 1 || v > maxVolume {
		return nil, api.ErrRange
	}
	if most <= 4*err {
		return nil, api.ErrCap
	}
	for n := int64(1); n <= 1000; n++ {
		if n*(most-4*err) >= v {
			return deal(v, n), api.OK
		}
	}
	return nil, api.ErrCap
}

func wantStrokes(v int64) []int64 {
	switch {
	case v <= 0:
		return nil
	case v < 4:
		return deal(v, v)
	}
	return deal(v, 4)
}

// checkParts holds Parts and Count of a tip that is Right against what they should be.
func checkParts(t *testing.T, most, err, v int64) api.Errno {
	t.Helper()
	want, e := wantParts(most, err, v)
	if got, f := Parts(tipOf(most, err), v); f != e || !slices.Equal(got, want) {
		t.Fatalf("Parts by Cap %d, Err %d of %d: %.200v, %d, not %.200v, %d", most, err, v, fmt.Sprint(got), f, fmt.Sprint(want), e)
	}
	count := 0
	for _, part := range want {
		count += len(wantStrokes(part))
	}
	if got, f := Count(tipOf(most, err), v); f != e || got != count {
		t.Fatalf("Count by Cap %d, Err %d of %d: %d, %d, not %d, %d", most, err, v, got, f, count, e)
	}
	return e
}

// refuse: Parts and Count have that error, and nothing beside it.
func refuse(t *testing.T, tip api.Tip, v int64, want api.Errno) {
	t.Helper()
	if got, e := Parts(tip, v); len(got) != 0 || e != want {
		t.Errorf("Parts(%.200v, %d): %.200v, %d, not %d", fmt.Sprint(tip), v, fmt.Sprint(got), e, want)
	}
	if got, e := Count(tip, v); got != 0 || e != want {
		t.Errorf("Count(%.200v, %d): %d, %d, not %d", fmt.Sprint(tip), v, got, e, want)
	}
}

// even: n pieces, v together, each at least 1, no two more than 1 apart, the greater ones ahead.
func even(l []int64, v, n int64) bool {
	if int64(len(l)) != n {
		return false
	}
	rest := v
	for i, x := range l {
		if x < 1 || x > rest || i > 0 && x > l[i-1] || l[0]-x > 1 {
			return false
		}
		rest -= x
	}
	return rest == 0
}

// P16.1
func TestParts(t *testing.T) {
	for _, x := range []struct {
		most, err, v int64
		want         []int64
		count        int
	}{
		// as much as the tip takes, one less, one more
		{10, 0, 9, []int64{9}, 4},
		{10, 0, 10, []int64{10}, 4},
		{10, 0, 11, []int64{6, 5}, 8},
		{10, 0, 20, []int64{10, 10}, 8},
		{10, 0, 21, []int64{7, 7, 7}, 12},
		{10, 0, 22, []int64{8, 7, 7}, 12},
		{10, 0, 23, []int64{8, 8, 7}, 12},
		{10, 0, 30, []int64{10, 10, 10}, 12},
		{10, 0, 31, []int64{8, 8, 8, 7}, 16},
		{100, 0, 101, []int64{51, 50}, 8},
		// four errors are left free, not one, two or three
		{10, 1, 6, []int64{6}, 4},
		{10, 1, 7, []int64{4, 3}, 7},
		{10, 1, 12, []int64{6, 6}, 8},
		{10, 1, 13, []int64{5, 4, 4}, 12},
		{10, 2, 2, []int64{2}, 2},
		{10, 2, 3, []int64{2, 1}, 3},
		{10, 2, 7, []int64{2, 2, 2, 1}, 7},
		{1000, 10, 961, []int64{481, 480}, 8},
		{1000, 10, 960, []int64{960}, 4},
		// a nanolitre at once, and that alone
		{9, 2, 1, []int64{1}, 1},
		{9, 2, 5, []int64{1, 1, 1, 1, 1}, 5},
		{1, 0, 1, []int64{1}, 1},
		{1, 0, 3, []int64{1, 1, 1}, 3},
		{40001, 10000, 2, []int64{1, 1}, 2},
		// the greatest tip, the greatest volume, the greatest error
		{maxVolume, 0, 1, []int64{1}, 1},
		{maxVolume, 0, 2, []int64{2}, 2},
		{maxVolume, 0, 3, []int64{3}, 3},
		{maxVolume, 0, 4, []int64{4}, 4},
		{maxVolume, 0, maxVolume - 1, []int64{19999999}, 4},
		{maxVolume, 0, maxVolume, []int64{20000000}, 4},
		{maxVolume - 1, 0, maxVolume, []int64{10000000, 10000000}, 8},
		{maxVolume, 1, maxVolume, []int64{10000000, 10000000}, 8},
		{maxVolume, maxErr, 19960000, []int64{19960000}, 4},
		{maxVolume, maxErr, 19960001, []int64{9980001, 9980000}, 8},
		{maxVolume, maxErr, maxVolume, []int64{10000000, 10000000}, 8},
		{8000000, 0, maxVolume, []int64{6666667, 6666667, 6666666}, 12},
	} {
		if got, e := Parts(tipOf(x.most, x.err), x.v); e != api.OK || !slices.Equal(got, x.want) {
			t.Errorf("Parts by Cap %d, Err %d of %d: %v, %d, not %v", x.most, x.err, x.v, got, e, x.want)
		}
		if got, e := Count(tipOf(x.most, x.err), x.v); e != api.OK || got != x.count {
			t.Errorf("Count by Cap %d, Err %d of %d: %d, %d, not %d", x.most, x.err, x.v, got, e, x.count)
		}
	}
}

// P16.1: a thousand parts, and one more.
func TestMostParts(t *testing.T) {
	for _, x := range []struct{ most, err, v, n, first, last int64 }{
		{1, 0, 1000, 1000, 1, 1},
		{9, 2, 1000, 1000, 1, 1},
		{40001, 10000, 1000, 1000, 1, 1},
		{2, 0, 1998, 999, 2, 2},
		{2, 0, 1999, 1000, 2, 1},
		{2, 0, 2000, 1000, 2, 2},
		{7, 1, 2997, 999, 3, 3},
		{7, 1, 2998, 1000, 3, 2},
		{7, 1, 3000, 1000, 3, 3},
		{20000, 0, 19980001, 1000, 19981, 19980},
		{20000, 0, maxVolume, 1000, 20000, 20000},
		{60000, 10000, maxVolume, 1000, 20000, 20000},
		{20020, 0, 19999980, 999, 20020, 20020},
		{20020, 0, maxVolume, 1000, 20000, 20000},
		{20021, 0, maxVolume, 999, 20021, 20020},
	} {
		got, e := Parts(tipOf(x.most, x.err), x.v)
		if e != api.OK || int64(len(got)) != x.n || got[0] != x.first || got[x.n-1] != x.last {
			t.Errorf("Parts by Cap %d, Err %d of %d: %d, %.40s .., %d", x.most, x.err, x.v, len(got), fmt.Sprint(got), e)
		}
		checkParts(t, x.most, x.err, x.v)
	}
	for _, x := range []struct{ most, err, v int64 }{
		{1, 0, 1001},
		{9, 2, 1001},
		{40001, 10000, 1001},
		{2, 0, 2001},
		{7, 1, 3001},
		{19999, 0, 19999001},
		{19999, 0, maxVolume},
		{59999, 10000, maxVolume},
		{1, 0, maxVolume},
	} {
		refuse(t, tipOf(x.most, x.err), x.v, api.ErrCap)
	}
	if n, e := Count(tipOf(20000, 0), maxVolume); n != 4000 || e != api.OK {
		t.Errorf("Count of the most: %d, %d", n, e)
	}
}

// P16.1: a tip has to take more than four errors together.
func TestTipsThatTakeTooLittle(t *testing.T) {
	for _, err := range []int64{1, 2, 3, 250, 2500, 9999, maxErr} {
		for _, most := range []int64{1, err, err + 1, 2 * err, 3 * err, 3*err + 1, 4*err - 1, 4 * err} {
			for _, v := range []int64{1, 2, 1000, maxVolume} {
				refuse(t, tipOf(most, err), v, api.ErrCap)
			}
		}
		if got, e := Parts(tipOf(4*err+1, err), 2); e != api.OK || !slices.Equal(got, []int64{1, 1}) {
			t.Errorf("Parts by Cap %d, Err %d of 2: %v, %d", 4*err+1, err, got, e)
		}
		if got, e := Parts(tipOf(4*err+2, err), 2); e != api.OK || !slices.Equal(got, []int64{2}) {
			t.Errorf("Parts by Cap %d, Err %d of 2: %v, %d", 4*err+2, err, got, e)
		}
	}
}

// P16.1
func TestWrongVolumes(t *testing.T) {
	for _, v := range []int64{lowest, lowest + 1, -maxVolume, -1, 0, maxVolume + 1, 1 << 32, 1<<32 + 1, 1 << 62, highest - 1, highest} {
		// ahead of a tip that takes too little
		for _, tip := range []api.Tip{tipOf(1, 0), tipOf(1000, 10), tipOf(maxVolume, maxErr), tipOf(40, 10), tipOf(1, maxErr)} {
			refuse(t, tip, v, api.ErrRange)
		}
	}
	for _, v := range []int64{1, maxVolume} {
		if _, e := Parts(tipOf(maxVolume, 0), v); e != api.OK {
			t.Errorf("Parts of %d: %d", v, e)
		}
	}
}

// P16.1: whatever is wrong with a tip, it is so ahead of all else.
func TestWrongTips(t *testing.T) {
	for _, change := range []func(*api.Tip){
		func(x *api.Tip) { *x = api.Tip{} },
		func(x *api.Tip) { x.Name = "" },
		func(x *api.Tip) { x.Name = "T1" },
		func(x *api.Tip) { x.Name = "1t" },
		func(x *api.Tip) { x.Name = strings.Repeat("t", 17) },
		func(x *api.Tip) { x.Cap = 0 },
		func(x *api.Tip) { x.Cap = -1 },
		func(x *api.Tip) { x.Cap = lowest },
		func(x *api.Tip) { x.Cap = maxVolume + 1 },
		func(x *api.Tip) { x.Cap = highest },
		func(x *api.Tip) { x.Filter = 0 },
		func(x *api.Tip) { x.Filter = 60001 },
		func(x *api.Tip) { x.Err = -1 },
		func(x *api.Tip) { x.Err = maxErr + 1 },
		func(x *api.Tip) { x.Err = lowest },
		func(x *api.Tip) { x.Err = highest },
		func(x *api.Tip) { x.Err = 1 << 62 }, // four of those are 0 in 64 bits
		func(x *api.Tip) { x.Outer = nil },
		func(x *api.Tip) { x.Outer[0].H = 50 },
		func(x *api.Tip) { x.Outer[1].B0 = 1 },
		func(x *api.Tip) { x.Outer[1].H = 60000 },
		func(x *api.Tip) { x.Outer = slices.Repeat(x.Outer, 3) },
	} {
		for _, v := range []int64{lowest, -1, 0, 1, 5, 1000, maxVolume, maxVolume + 1, highest} {
			for _, tip := range []api.Tip{tipOf(1000, 10), tipOf(40, 10)} {
				change(&tip)
				refuse(t, tip, v, api.ErrTip)
			}
		}
	}
	// and at the ends of what may be
	for _, x := range []api.Tip{
		{Name: "t", Cap: 1, Filter: 1, Outer: []api.Section{{H: 100, A1: 1, B1: 1}}},
		{Name: "abcdefghijklmnop", Cap: maxVolume, Filter: 60000, Err: maxErr, Outer: []api.Section{{Round: true, H: 60000, A0: 20000, A1: 20000}}},
	} {
		if got, e := Parts(x, 1); e != api.OK || !slices.Equal(got, []int64{1}) {
			t.Errorf("Parts(%v, 1): %v, %d", x, got, e)
		}
	}
}

// P16.1: tips that take little, volume by volume.
func TestPartsOneByOne(t *testing.T) {
	ended := map[api.Errno]int{}
	for most := int64(1); most <= 30; most++ {
		for err := int64(0); err <= 8; err++ {
			for v := int64(-2); v <= 150; v++ {
				ended[checkParts(t, most, err, v)]++
			}
		}
	}
	if ended[api.OK] < 1000 || ended[api.ErrCap] < 1000 || ended[api.ErrRange] < 500 {
		t.Errorf("ended so often: %v", ended)
	}
}

// P16.1, P16.2: of many tips and volumes the least number of parts that can be, as much together, none more than a tip takes with an error of each stroke.
func TestPartsOfMany(t *testing.T) {
	r := rand.New(rand.NewSource(1))
	ended := map[api.Errno]int{}
	for range 20000 {
		err := r.Int63n([]int64{1, 3, 200, maxErr + 1}[r.Intn(4)])
		most := 1 + r.Int63n([]int64{20, 2000, 100000, maxVolume}[r.Intn(4)])
		v := 1 + r.Int63n([]int64{30, 5000, 1000000, maxVolume}[r.Intn(4)])
		tip := tipOf(most, err)
		l, e := Parts(tip, v)
		ended[e]++
		room := most - 4*err
		fits := room > 0 && maxOps*room >= v
		if fits != (e == api.OK) || !fits && (e != api.ErrCap || len(l) > 0) {
			t.Fatalf("Parts by Cap %d, Err %d of %d: %d of them, %d", most, err, v, len(l), e)
		}
		if !fits {
			continue
		}
		n := int64(len(l))
		if n*room < v || (n-1)*room >= v || !even(l, v, n) {
			t.Fatalf("Parts by Cap %d, Err %d of %d: %.200v", most, err, v, fmt.Sprint(l))
		}
		count := 0
		for _, part := range l {
			strokes := Strokes(part)
			count += len(strokes)
			if part+int64(len(strokes))*err > most {
				t.Fatalf("by Cap %d, Err %d of %d: a part of %d may be too much", most, err, v, part)
			}
		}
		if got, e := Count(tip, v); e != api.OK || got != count {
			t.Fatalf("Count by Cap %d, Err %d of %d: %d, %d, not %d", most, err, v, got, e, count)
		}
	}
	if ended[api.OK] < 5000 || ended[api.ErrCap] < 1000 {
		t.Errorf("ended so often: %v", ended)
	}
}

// P16.1
func TestStrokes(t *testing.T) {
	for _, x := range []struct {
		v    int64
		want []int64
	}{
		{lowest, nil},
		{lowest + 1, nil},
		{-10, nil},
		{-4, nil},
		{-1, nil},
		{0, nil},
		{1, []int64{1}},
		{2, []int64{1, 1}},
		{3, []int64{1, 1, 1}},
		{4, []int64{1, 1, 1, 1}},
		{5, []int64{2, 1, 1, 1}},
		{6, []int64{2, 2, 1, 1}},
		{7, []int64{2, 2, 2, 1}},
		{8, []int64{2, 2, 2, 2}},
		{10, []int64{3, 3, 2, 2}},
		{20000000, []int64{5000000, 5000000, 5000000, 5000000}},
		{20000001, []int64{5000001, 5000000, 5000000, 5000000}},
		{1<<32 + 2, []int64{1<<30 + 1, 1<<30 + 1, 1 << 30, 1 << 30}},
		{1 << 62, []int64{1 << 60, 1 << 60, 1 << 60, 1 << 60}},
		{highest - 3, []int64{1<<61 - 1, 1<<61 - 1, 1<<61 - 1, 1<<61 - 1}},
		{highest, []int64{1 << 61, 1 << 61, 1 << 61, 1<<61 - 1}},
	} {
		if got := Strokes(x.v); !slices.Equal(got, x.want) {
			t.Errorf("Strokes(%d): %v, not %v", x.v, got, x.want)
		}
	}
}

// P16.1, P16.2
func TestStrokesOfMany(t *testing.T) {
	for v := int64(-100); v <= 2000; v++ {
		if got, want := Strokes(v), wantStrokes(v); !slices.Equal(got, want) {
			t.Errorf("Strokes(%d): %v, not %v", v, got, want)
		}
	}
	r := rand.New(rand.NewSource(2))
	for range 20000 {
		v := r.Int63() >> r.Intn(63)
		if got := Strokes(v); !even(got, v, min(v, strokesOf)) {
			t.Errorf("Strokes(%d): %v", v, got)
		}
		if got := Strokes(-v); len(got) != 0 {
			t.Errorf("Strokes(%d): %v", -v, got)
		}
	}
}

// P16.1: a part of fewer nanolitres than Strokes has one stroke of each.
func TestCountOfSmallParts(t *testing.T) {
	for _, x := range []struct {
		most, v int64
		want    int
	}{
		{1, 7, 7},
		{2, 7, 7},   // 2 2 2 1
		{3, 7, 7},   // 3 2 2
		{4, 7, 7},   // 4 3
		{4, 8, 8},   // 4 4
		{5, 7, 7},   // 4 3
		{5, 9, 8},   // 5 4
		{6, 7, 7},   // 4 3
		{7, 7, 4},   // 7
		{5, 11, 11}, // 4 4 3
		{5, 13, 12}, // 5 4 4
		{4, 999, 999},
		{4, 1000, 1000},
		{4, 3999, 3999},
		{4, 4000, 4000},
		{5, 4001, 3204}, // 801 parts: 797 of 5, 4 of 4
		{1000, 1000, 4},
	} {
		if got, e := Count(tipOf(x.most, 0), x.v); e != api.OK || got != x.want {
			t.Errorf("Count by Cap %d of %d: %d, %d, not %d", x.most, x.v, got, e, x.want)
		}
	}
}

// P16.1: what a tip is made like, but for Cap and Err, is nothing to its parts.
func TestOtherFieldsOfATip(t *testing.T) {
	want := []int64{481, 480}
	for _, x := range []api.Tip{
		{Name: "a", Cap: 1000, Filter: 1, Err: 10, Outer: []api.Section{{H: 100, A1: 1, B1: 1}}},
		{Name: "abcdefghijklmnop", Cap: 1000, Filter: 60000, Err: 10, Outer: []api.Section{{Round: true, H: 60000, A0: 20000, A1: 20000}}},
	} {
		if got, e := Parts(x, 961); e != api.OK || !slices.Equal(got, want) {
			t.Errorf("Parts(%v, 961): %v, %d", x, got, e)
		}
		if got, e := Count(x, 961); e != api.OK || got != 8 {
			t.Errorf("Count(%v, 961): %d, %d", x, got, e)
		}
	}
}

// P14.1 asks for as many strokes as Count tells: source counts them without this layer, which is above it.
func TestTouchesAreCounts(t *testing.T) {
	r := rand.New(rand.NewSource(3))
	ended := map[api.Errno]int{}
	for range 3000 {
		err := r.Int63n([]int64{1, 3, 200, maxErr + 1}[r.Intn(4)])
		most := 1 + r.Int63n([]int64{20, 2000, 100000, maxVolume}[r.Intn(4)])
		v := r.Int63n([]int64{30, 5000, 1000000, maxVolume + 2}[r.Intn(4)])
		tip := tipOf(most, err)
		b, e := deck.New(api.Deck{Wares: []api.Ware{{Name: "p", Rows: 1, Cols: 2, Shape: tip.Outer}}, Tips: []api.Tip{tip}})
		if e != api.OK {
			t.Fatalf("deck.New: %d", e)
		}
		n, e := Count(tip, v)
		ended[e]++
		got, f := source.Touches(b, []api.Op{{Src: api.Well{Ware: "p"}, Dst: api.Well{Ware: "p", Col: 1}, V: v, Tip: "t1"}})
		if f != e || e == api.OK && !slices.Equal(got, []int{n, n}) {
			t.Fatalf("source.Touches by Cap %d, Err %d of %d: %v, %d, not %d, %d", most, err, v, got, f, n, e)
		}
	}
	if ended[api.OK] < 1000 || ended[api.ErrCap] < 200 || ended[api.ErrRange] < 5 {
		t.Errorf("ended so often: %v", ended)
	}
}

// DOC.md's third rule: a tip isn't changed, nor what lies behind its sections, and each answer is new memory.
func TestMemory(t *testing.T) {
	whole := append(slices.Clone(tipOf(1, 0).Outer), api.Section{H: 7, A0: 8, B0: 9, A1: 10, B1: 11})
	tip := tipOf(1000, 10)
	tip.Outer = whole[:2]
	before := slices.Clone(whole)
	one, _ := Parts(tip, 2881)
	two, _ := Parts(tip, 2881)
	Count(tip, 2881)
	if !slices.Equal(whole, before) || !reflect.DeepEqual(tip.Outer, before[:2]) {
		t.Errorf("the tip was changed: %v", whole)
	}
	want := []int64{721, 720, 720, 720}
	spoil(one)
	if !slices.Equal(two, want) {
		t.Errorf("two answers of Parts share memory: %v", two)
	}
	if again, _ := Parts(tip, 2881); !slices.Equal(again, want) {
		t.Errorf("Parts kept its answer: %v", again)
	}
	first, second := Strokes(11), Strokes(11)
	spoil(first)
	if !slices.Equal(second, []int64{3, 3, 3, 2}) || !slices.Equal(Strokes(11), second) {
		t.Errorf("answers of Strokes share memory: %v, %v", second, Strokes(11))
	}
}

// spoil overwrites l and the spare room behind it.
func spoil(l []int64) {
	l = l[:cap(l)]
	for i := range l {
		l[i] = -1
	}
}

// DOC.md's eighth rule: the answers hang on the arguments alone, asked by many at once.
func TestSameAgain(t *testing.T) {
	tell := func() string {
		var text strings.Builder
		for _, tip := range []api.Tip{tipOf(9, 2), tipOf(1000, 10), tipOf(40, 10), tipOf(0, 0)} {
			for v := int64(-1); v < 3000; v += 7 {
				l, e := Parts(tip, v)
				n, f := Count(tip, v)
				fmt.Fprint(&text, l, e, n, f, Strokes(v), "\n")
			}
		}
		return text.String()
	}
	told := tell()
	got := make([]string, 4)
	var all sync.WaitGroup
	for k := range got {
		all.Go(func() { got[k] = tell() })
	}
	all.Wait()
	for _, text := range got {
		if text != told {
			t.Error("not the same for many at once")
		}
	}
}
