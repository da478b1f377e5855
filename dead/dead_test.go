package dead

import (
	"math"
	"math/big"
	"math/rand"
	"strconv"
	"sync"
	"testing"

	"dipper/api"
	"dipper/level"
	"dipper/table"
)

const (
	lowest  = math.MinInt64
	highest = math.MaxInt64
	billion = 1000000000
)

func round(h, a0, a1 int64) api.Section { return api.Section{Round: true, H: h, A0: a0, A1: a1} }

func box(h, a0, b0, a1, b1 int64) api.Section {
	return api.Section{H: h, A0: a0, B0: b0, A1: a1, B1: b1}
}

// even is a box of 1000 nanolitres a slice.
func even(h int64) api.Section { return box(h, 10000, 1000, 10000, 1000) }

func list(s ...api.Section) []api.Section { return s }

func of(t testing.TB, s ...api.Section) *table.Table {
	t.Helper()
	made, e := table.Of(s)
	if e != api.OK {
		t.Fatalf("table.Of(%v): %d", s, e)
	}
	return made
}

// odd are shapes at whose bounds something turns over.
func odd() [][]api.Section {
	return [][]api.Section{
		list(round(100, 0, 1)),
		// their lower bounds are noughts: there is room for nothing alone, or not even for that
		list(round(400, 1, 1)),
		list(round(500, 1, 1)),
		list(round(1200, 1, 1)),
		list(round(1300, 1, 1)),
		list(round(60000, 0, 1)),
		list(box(100, 20000, 20000, 20000, 20000)),
		list(box(60000, 20000, 20000, 20000, 20000)),
		list(box(60000, 0, 20000, 20000, 1)),
		list(round(30000, 20000, 1), box(30000, 1, 1, 20000, 20000)),
		list(even(400)), list(even(500)), list(even(600)), list(even(1200)), list(even(1300)), list(even(1400)),
		list(round(300, 0, 9000), box(700, 0, 0, 19999, 20000), round(100, 3, 3), box(200, 5000, 60, 1, 7000)),
		list(round(300, 0, 9000), box(700, 0, 0, 19999, 20000), round(100, 3, 3), box(100, 5000, 60, 1, 7000)),
	}
}

// pickShape is one that is Right, of sides up to side.
func pickShape(r *rand.Rand, side int64) []api.Section {
	var s []api.Section
	for range 1 + r.Intn(4) {
		x := box(100*(1+r.Int63n(12)), r.Int63n(side+1), r.Int63n(side+1), 1+r.Int63n(side), 1+r.Int63n(side))
		if r.Intn(2) == 0 {
			x = round(x.H, x.A0, x.A1)
		}
		s = append(s, x)
	}
	return s
}

func shapes(seed int64, more int) [][]api.Section {
	all, r := odd(), rand.New(rand.NewSource(seed))
	for range more {
		all = append(all, pickShape(r, []int64{3, 1500, 20000}[r.Intn(3)]))
	}
	return all
}

// cubic is how many cubic micrometres v is taken for.
func cubic(v int64) *big.Int {
	if v < 0 {
		v = 0
	}
	if v > billion {
		v = billion
	}
	return new(big.Int).Mul(big.NewInt(v), big.NewInt(1000000))
}

// wantEnough goes up from 1300: there is no more than v up to that height, or to a greater one.
func wantEnough(t *table.Table, v int64) bool {
	for i := 13; i <= t.Slices(); i++ {
		if big.NewInt(t.High(i)).Cmp(cubic(v)) <= 0 {
			return true
		}
	}
	return false
}

// wantRoom goes up from the floor to 500 below the rim: there is no less than v up to one of those heights.
func wantRoom(t *table.Table, v int64) bool {
	for i := 0; i <= t.Slices()-5; i++ {
		if big.NewInt(t.Low(i)).Cmp(cubic(v)) >= 0 {
			return true
		}
	}
	return false
}

// wantVolume: what there may be up to 1300, in whole nanolitres upwards.
func wantVolume(t *table.Table) (int64, bool) {
	if t.Height() < 1300 {
		return 0, false
	}
	v := t.High(13) / 1000000
	if t.High(13)%1000000 > 0 {
		v++
	}
	return v, true
}

// wantLimit: what there must be up to 500 below the rim, in whole nanolitres downwards.
func wantLimit(t *table.Table) (int64, bool) {
	if t.Height() < 500 {
		return 0, false
	}
	return t.Low(t.Slices()-5) / 1000000, true
}

// volumes are those at which an answer may turn over, and some between and beyond.
func volumes(t *table.Table, r *rand.Rand) []int64 {
	all := []int64{lowest, lowest + 1, -1000000, -1, 0, 1, 2, billion - 1, billion, billion + 1, highest - 1, highest}
	// those times a million wrap round 64 bits to little, or to less than nought
	all = append(all, 18446744073709, 18446744073710, 18446744074000, 1<<32, 1<<58, 1<<60, 9223372036854, 9223372036855)
	for _, i := range []int{12, 13, 14, t.Slices() - 6, t.Slices() - 5, t.Slices() - 4, t.Slices(), r.Intn(t.Slices() + 1)} {
		for _, x := range []int64{t.Low(i), t.High(i)} {
			all = append(all, x/1000000-1, x/1000000, x/1000000+1)
		}
	}
	for range 20 {
		all = append(all, r.Int63n(t.High(t.Slices())/1000000+2))
	}
	return all
}

// P15.1: at the height that must be under liquid, and one slice below and above it.
func TestEnough(t *testing.T) {
	lower, just, higher := of(t, even(1200)), of(t, even(1300)), of(t, even(1400))
	for _, x := range []struct {
		v                   int64
		lower, just, higher bool
	}{
		{lowest, false, false, false},
		{-13000, false, false, false},
		{-1, false, false, false},
		{0, false, false, false},
		{300, false, false, false},
		{1000, false, false, false},
		{12000, false, false, false},
		{12999, false, false, false},
		{13000, false, true, true},
		{13001, false, true, true},
		{14000, false, true, true},
		{billion, false, true, true},
		{billion + 1, false, true, true},
		{18446744073710, false, true, true}, // a million of those wrap round to less than a slice
		{1 << 58, false, true, true},
		{highest, false, true, true},
	} {
		if a, b, c := Enough(lower, x.v), Enough(just, x.v), Enough(higher, x.v); a != x.lower || b != x.just || c != x.higher {
			t.Errorf("of %d: %v, %v, %v, not %v, %v, %v", x.v, a, b, c, x.lower, x.just, x.higher)
		}
	}
}

// P15.1: at the height that must stay empty, and one slice below and above it.
func TestRoom(t *testing.T) {
	lower, just, higher, high := of(t, even(400)), of(t, even(500)), of(t, even(600)), of(t, even(10000))
	for _, x := range []struct {
		v                         int64
		lower, just, higher, high bool
	}{
		{lowest, false, true, true, true},
		{-1, false, true, true, true},
		{0, false, true, true, true},
		{1, false, false, true, true},
		{999, false, false, true, true},
		{1000, false, false, true, true},
		{1001, false, false, false, true},
		{94001, false, false, false, true},
		{95000, false, false, false, true},
		{95001, false, false, false, false},
		{100000, false, false, false, false},
		{billion, false, false, false, false},
		{billion + 1, false, false, false, false},
		{18446744073710, false, false, false, false}, // a million of those wrap round to less than a slice
		{1 << 58, false, false, false, false},
		{highest, false, false, false, false},
	} {
		a, b, c, d := Room(lower, x.v), Room(just, x.v), Room(higher, x.v), Room(high, x.v)
		if a != x.lower || b != x.just || c != x.higher || d != x.high {
			t.Errorf("of %d: %v, %v, %v, %v, not %v, %v, %v, %v", x.v, a, b, c, d, x.lower, x.just, x.higher, x.high)
		}
	}
}

// P15.1: of wells whose slices are alike, of some whose bounds lie apart, of the least and the greatest.
func TestVolumeAndLimit(t *testing.T) {
	for _, x := range []struct {
		s         []api.Section
		v, limit  int64
		some, may bool
	}{
		{list(even(100)), 0, 0, false, false},
		{list(even(400)), 0, 0, false, false},
		{list(even(500)), 0, 0, false, true},
		{list(even(600)), 0, 1000, false, true},
		{list(even(1200)), 0, 7000, false, true},
		{list(even(1300)), 13000, 8000, true, true},
		{list(even(1400)), 13000, 9000, true, true},
		{list(even(1800)), 13000, 13000, true, true},
		{list(even(60000)), 13000, 595000, true, true},
		{list(even(200), even(300), even(700), even(600)), 13000, 13000, true, true},
		// a wedge: 100 by 100 nanolitres more a slice, at most from the first, at least from the second one on
		{list(box(2000, 0, 1000, 20000, 1000)), 9100, 10500, true, true},
		// one that is narrower above: 50 nanolitres less a slice, from 2000 on at most, from 1950 on at least
		{list(box(2000, 20000, 1000, 10000, 1000)), 22100, 24000, true, true},
		// wider and narrower than what is below
		{list(even(1300), box(100, 20000, 20000, 20000, 20000)), 13000, 9000, true, true},
		{list(even(1200), box(200, 20000, 20000, 20000, 20000)), 52000, 9000, true, true},
		// less than a nanolitre: all that must stay is made one, all that may be none
		{list(box(2000, 1, 1, 1, 1)), 1, 0, true, true},
		{list(round(500, 1, 1)), 0, 0, false, true},
		{list(round(1300, 1, 1)), 1, 0, true, true},
		// a hundred cubic micrometres less than whole nanolitres, exactly those, a hundred more
		{list(box(1200, 100, 100, 100, 100), box(100, 9999, 1, 9999, 1), box(5000, 1, 1, 1, 1)), 13, 13, true, true},
		{list(box(1200, 100, 100, 100, 100), box(100, 10000, 1, 10000, 1), box(5000, 1, 1, 1, 1)), 13, 13, true, true},
		{list(box(1200, 100, 100, 100, 100), box(100, 10001, 1, 10001, 1), box(500, 1, 1, 1, 1)), 14, 13, true, true},
		{list(box(1200, 100, 100, 100, 100), box(100, 9999, 1, 9999, 1), box(500, 1, 1, 1, 1)), 13, 12, true, true},
		{list(box(1200, 100, 100, 100, 100), box(100, 10000, 1, 10000, 1), box(500, 1, 1, 1, 1)), 13, 13, true, true},
		// the greatest of all
		{list(box(60000, 20000, 20000, 20000, 20000)), 520000, 23800000, true, true},
	} {
		made := of(t, x.s...)
		if v, some := Volume(made); v != x.v || some != x.some {
			t.Errorf("of %v: Volume: %d, %v, not %d, %v", x.s, v, some, x.v, x.some)
		}
		if limit, may := Limit(made); limit != x.limit || may != x.may {
			t.Errorf("of %v: Limit: %d, %v, not %d, %v", x.s, limit, may, x.limit, x.may)
		}
	}
}

// P15.1: Enough goes by the widest that the well may be, Room by the narrowest.
func TestBoundsThatLieApart(t *testing.T) {
	// nanolitres up to 1300: 7800 at least, 9100 at most; up to 1500: 10500 at least, 12000 at most
	wedge := of(t, box(2000, 0, 1000, 20000, 1000))
	for _, x := range []struct {
		v            int64
		enough, room bool
	}{
		{0, false, true},
		{7799, false, true},
		{7800, false, true},
		{9099, false, true},
		{9100, true, true},
		{10500, true, true},
		{10501, true, false},
		{12000, true, false},
		{12001, true, false},
		{billion, true, false},
	} {
		if enough, room := Enough(wedge, x.v), Room(wedge, x.v); enough != x.enough || room != x.room {
			t.Errorf("of %d: %v, %v, not %v, %v", x.v, enough, room, x.enough, x.room)
		}
	}
}

// P15.1: against heights that are gone through one by one, with numbers that can't run over.
func TestEnoughAndRoomOfMany(t *testing.T) {
	r := rand.New(rand.NewSource(1))
	for _, s := range shapes(2, 300) {
		made := of(t, s...)
		for _, v := range volumes(made, r) {
			if got, want := Enough(made, v), wantEnough(made, v); got != want {
				t.Errorf("of %v: Enough(%d): %v, not %v", s, v, got, want)
			}
			if got, want := Room(made, v), wantRoom(made, v); got != want {
				t.Errorf("of %v: Room(%d): %v, not %v", s, v, got, want)
			}
		}
	}
}

// P15.1: Enough and Room are what the levels say.
func TestEnoughAndRoomByLevels(t *testing.T) {
	r := rand.New(rand.NewSource(3))
	for _, s := range shapes(4, 300) {
		made := of(t, s...)
		for _, v := range volumes(made, r) {
			if got, low := Enough(made, v), level.Low(made, v); got != (low >= api.Clear+api.Margin) {
				t.Errorf("of %v: Enough(%d): %v, and liquid is at least %d high", s, v, got, low)
			}
			if got, high := Room(made, v), level.High(made, v); got != (high+api.Rim <= made.Height()) {
				t.Errorf("of %v: Room(%d): %v, and liquid is at most %d of %d high", s, v, got, high, made.Height())
			}
		}
	}
}

// P15.1
func TestVolumeAndLimitOfMany(t *testing.T) {
	never, none := 0, 0
	for _, s := range shapes(5, 3000) {
		made := of(t, s...)
		v, some := Volume(made)
		if want, is := wantVolume(made); v != want || some != is {
			t.Errorf("of %v: Volume: %d, %v, not %d, %v", s, v, some, want, is)
		}
		limit, may := Limit(made)
		if want, is := wantLimit(made); limit != want || may != is {
			t.Errorf("of %v: Limit: %d, %v, not %d, %v", s, limit, may, want, is)
		}
		if !some {
			never++
		}
		if !may {
			none++
		}
	}
	if never < 100 || none < 50 {
		t.Errorf("too few wells were too low: %d, %d", never, none)
	}
}

// P15.1: of wells of few nanolitres each volume is asked, one by one.
func TestVolumeAndLimitOneByOne(t *testing.T) {
	r := rand.New(rand.NewSource(6))
	for range 100 {
		s := pickShape(r, 400)
		made := of(t, s...)
		wantLeast, wantMost := int64(-1), int64(-1)
		// beyond what fills the well nothing changes any more
		for v := made.High(made.Slices())/1000000 + 2; v >= 0; v-- {
			if wantEnough(made, v) {
				wantLeast = v
			}
			if wantRoom(made, v) && wantMost < 0 {
				wantMost = v
			}
		}
		v, some := Volume(made)
		if some != (wantLeast >= 0) || v != max(wantLeast, 0) {
			t.Errorf("of %v: Volume: %d, %v, not %d", s, v, some, wantLeast)
		}
		limit, may := Limit(made)
		if may != (wantMost >= 0) || limit != max(wantMost, 0) {
			t.Errorf("of %v: Limit: %d, %v, not %d", s, limit, may, wantMost)
		}
	}
}

// P15.1: of no table.
func TestOfNoTable(t *testing.T) {
	if v, some := Volume(nil); v != 0 || some {
		t.Errorf("Volume(nil): %d, %v", v, some)
	}
	if limit, may := Limit(nil); limit != 0 || may {
		t.Errorf("Limit(nil): %d, %v", limit, may)
	}
	for _, v := range []int64{lowest, -1, 0, 1, 1300, billion, billion + 1, highest} {
		if Enough(nil, v) || Room(nil, v) {
			t.Errorf("of %d: %v, %v", v, Enough(nil, v), Room(nil, v))
		}
	}
}

// P15.2: from Volume on there is always enough, below it never; up to Limit there is always room, above it never.
func TestOneSideAndTheOther(t *testing.T) {
	r := rand.New(rand.NewSource(7))
	for _, s := range shapes(8, 300) {
		made := of(t, s...)
		least, some := Volume(made)
		most, may := Limit(made)
		for _, v := range append(volumes(made, r), least-1, least, least+1, most-1, most, most+1) {
			if got := Enough(made, v); got != (some && v >= least) {
				t.Errorf("of %v: Enough(%d): %v, but Volume: %d, %v", s, v, got, least, some)
			}
			if got := Room(made, v); got != (may && v <= most) {
				t.Errorf("of %v: Room(%d): %v, but Limit: %d, %v", s, v, got, most, may)
			}
		}
	}
}

// P15.2: wherever between its bounds a well is, of what is enough the level truly is above tip and margin, of what there is room for below the rim; and of anything else there is a well in which it isn't.
func TestTrueLevels(t *testing.T) {
	r := rand.New(rand.NewSource(9))
	for _, s := range shapes(10, 200) {
		made := of(t, s...)
		least, _ := Volume(made)
		most, _ := Limit(made)
		for _, v := range append(volumes(made, r), least-1, least, least+1, most-1, most, most+1) {
			enough, room := Enough(made, v), Room(made, v)
			for part := int64(0); part <= 1000; part += 125 {
				h := level.True(made, v, part)
				if enough && h < 300+1000 || room && h > made.Height()-500 {
					t.Errorf("of %v: True(%d, %d): %d, but %v, %v", s, v, part, h, enough, room)
				}
			}
			// more than a well holds stands above it, however low it is
			if h := level.True(made, v, 1000); !enough && h >= 300+1000 && h <= made.Height() {
				t.Errorf("of %v: %d isn't enough, but stands at %d in the widest", s, v, h)
			}
			if h := level.True(made, v, 0); !room && h < made.Height()-500 {
				t.Errorf("of %v: there is no room for %d, but it stands at %d in the narrowest", s, v, h)
			}
		}
	}
}

// tell is much that is answered of a table.
func tell(made *table.Table) string {
	var text []byte
	v, some := Volume(made)
	limit, may := Limit(made)
	for _, x := range []int64{v, limit} {
		text = append(strconv.AppendInt(text, x, 10), ' ')
	}
	for _, is := range []bool{some, may} {
		text = append(strconv.AppendBool(text, is), ' ')
	}
	for v := int64(-1); v < made.High(made.Slices())/1000000+2; v += v/3 + 1 {
		text = append(strconv.AppendBool(text, Enough(made, v)), ' ')
		text = append(strconv.AppendBool(text, Room(made, v)), ' ')
	}
	return string(text)
}

// P15.1, and DOC.md's eighth rule: the answers hang on the arguments alone, asked again, of the like table, by many at once.
func TestSameAgain(t *testing.T) {
	for _, s := range odd() {
		made := of(t, s...)
		told := tell(made)
		if tell(made) != told || tell(of(t, s...)) != told {
			t.Errorf("%v isn't the same again", s)
		}
		var all sync.WaitGroup
		got := make([]string, 4)
		for k := range got {
			all.Go(func() { got[k] = tell(made) })
		}
		all.Wait()
		for _, text := range got {
			if text != told {
				t.Errorf("%v isn't the same for many at once", s)
			}
		}
	}
}
