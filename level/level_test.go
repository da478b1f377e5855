package level

import (
	"math"
	"math/big"
	"math/rand"
	"strconv"
	"sync"
	"testing"

	"dipper/api"
	"dipper/table"
)

const (
	lowest  = math.MinInt64
	highest = math.MaxInt64
)

func round(h, a0, a1 int64) api.Section { return api.Section{Round: true, H: h, A0: a0, A1: a1} }

func box(h, a0, b0, a1, b1 int64) api.Section {
	return api.Section{H: h, A0: a0, B0: b0, A1: a1, B1: b1}
}

func list(s ...api.Section) []api.Section { return s }

func of(t *testing.T, s ...api.Section) *table.Table {
	t.Helper()
	made, e := table.Of(s)
	if e != api.OK {
		t.Fatalf("table.Of(%v): %d", s, e)
	}
	return made
}

// pickShape is one that is Right.
func pickShape(r *rand.Rand) []api.Section {
	var s []api.Section
	for range 1 + r.Intn(4) {
		side := []int64{3, 1500, 20000}[r.Intn(3)]
		x := box(100*(1+r.Int63n(40)), r.Int63n(side+1), r.Int63n(side+1), 1+r.Int63n(side), 1+r.Int63n(side))
		if r.Intn(2) == 0 {
			x = round(x.H, x.A0, x.A1)
		}
		s = append(s, x)
	}
	return s
}

// odd are shapes at whose bounds something turns over.
func odd() [][]api.Section {
	return [][]api.Section{
		list(round(100, 0, 1)),
		// its lower bounds are noughts: nothing is ever high enough for them
		list(round(1000, 1, 1)),
		list(round(60000, 0, 1)),
		list(box(100, 20000, 20000, 20000, 20000)),
		list(box(60000, 20000, 20000, 20000, 20000)),
		list(box(60000, 0, 20000, 20000, 1)),
		list(round(30000, 20000, 1), box(30000, 1, 1, 20000, 20000)),
		list(round(300, 0, 9000), box(700, 0, 0, 19999, 20000), round(100, 3, 3), box(200, 5000, 60, 1, 7000)),
	}
}

func shapes(seed int64, more int) [][]api.Section {
	all, r := odd(), rand.New(rand.NewSource(seed))
	for range more {
		all = append(all, pickShape(r))
	}
	return all
}

// wantCubic is how many cubic micrometres v is taken for.
func wantCubic(v int64) *big.Int {
	if v < 0 {
		v = 0
	}
	if v > 1000000000 {
		v = 1000000000
	}
	return new(big.Int).Mul(big.NewInt(v), big.NewInt(1000000))
}

// wantLow goes up from the floor, slice by slice.
func wantLow(t *table.Table, v int64) int64 {
	x, h := wantCubic(v), int64(0)
	for i := 0; i <= t.Slices(); i++ {
		if big.NewInt(t.High(i)).Cmp(x) <= 0 {
			h = int64(i) * 100
		}
	}
	return h
}

// wantHigh goes down from the rim, slice by slice.
func wantHigh(t *table.Table, v int64) int64 {
	x, h := wantCubic(v), t.Height()+100
	for i := t.Slices(); i >= 0; i-- {
		if big.NewInt(t.Low(i)).Cmp(x) >= 0 {
			h = int64(i) * 100
		}
	}
	return h
}

func wantTrue(t *table.Table, v, part int64) int64 {
	x := wantCubic(v)
	if x.Cmp(big.NewInt(t.True(t.Slices(), part))) > 0 {
		return t.Height() + 1
	}
	if x.Sign() == 0 {
		return 0
	}
	i := 0
	for big.NewInt(t.True(i, part)).Cmp(x) < 0 {
		i++
	}
	below, above := big.NewInt(t.True(i-1, part)), big.NewInt(t.True(i, part))
	way := new(big.Int).Sub(x, below)
	way.Mul(way, big.NewInt(100))
	way.Quo(way, above.Sub(above, below))
	return int64(i-1)*100 + way.Int64()
}

func wantVolume(t *table.Table, h int64, up bool) int64 {
	at := new(big.Int).SetInt64(h)
	if up {
		at.Add(at, big.NewInt(99))
	}
	// Div of math/big goes downwards, below nought too
	at.Div(at, big.NewInt(100))
	if at.Sign() < 0 {
		at.SetInt64(0)
	}
	if n := big.NewInt(int64(t.Slices())); at.Cmp(n) > 0 {
		at.Set(n)
	}
	i := int(at.Int64())
	if !up {
		return t.Low(i) / 1000000
	}
	v := t.High(i) / 1000000
	if t.High(i)%1000000 > 0 {
		v++
	}
	return v
}

// volumes are those at which a level of the table may turn over, and some between.
func volumes(t *table.Table, r *rand.Rand) []int64 {
	all := []int64{lowest, -1000000, -1, 0, 1, 2, 999999999, 1000000000, 1000000001, highest}
	// those times a million wrap round 64 bits to little, or to less than nought
	all = append(all, 18446744073709, 18446744073710, 18446744074000, 1<<58, 1<<60, 9223372036854, 9223372036855)
	for range 25 {
		i := r.Intn(t.Slices() + 1)
		for _, x := range []int64{t.Low(i), t.High(i), t.True(i, 500)} {
			all = append(all, x/1000000-1, x/1000000, x/1000000+1)
		}
	}
	for range 25 {
		all = append(all, r.Int63n(t.High(t.Slices())/1000000+2))
	}
	return all
}

func parts() []int64 { return []int64{lowest, -1, 0, 1, 333, 500, 999, 1000, 1001, highest} }

// P5.1
func TestLevelsOfABox(t *testing.T) {
	// 1000 nanolitres a slice: all bounds are exact
	made := of(t, box(300, 10000, 1000, 10000, 1000))
	for _, x := range []struct{ v, low, high, level int64 }{
		{0, 0, 0, 0},
		{1, 0, 100, 0},
		{9, 0, 100, 0},
		{10, 0, 100, 1},
		{999, 0, 100, 99},
		{1000, 100, 100, 100},
		{1001, 100, 200, 100},
		{2000, 200, 200, 200},
		{2999, 200, 300, 299},
		{3000, 300, 300, 300},
		{3001, 300, 400, 301},
		{1000000000, 300, 400, 301},
		{1000000001, 300, 400, 301},
		{highest, 300, 400, 301},
		{-1, 0, 0, 0},
		{lowest, 0, 0, 0},
	} {
		if low, high := Low(made, x.v), High(made, x.v); low != x.low || high != x.high {
			t.Errorf("of %d: Low, High: %d, %d, not %d, %d", x.v, low, high, x.low, x.high)
		}
		for _, part := range parts() {
			if got := True(made, x.v, part); got != x.level {
				t.Errorf("True(%d, %d): %d, not %d", x.v, part, got, x.level)
			}
		}
	}
}

// P5.1: where the bounds lie apart.
func TestLevelsOfAWedge(t *testing.T) {
	// nanolitres: lower bounds 0, 0, 500, 1500, 3500; upper bounds 0, 500, 1500, 3000, 5000
	made := of(t, box(300, 0, 1000, 15000, 1000), box(100, 20000, 1000, 20000, 1000))
	for _, x := range []struct{ v, low, high, least, half, most int64 }{
		{0, 0, 0, 0, 0, 0},
		{1, 0, 200, 100, 0, 0},
		{250, 0, 200, 150, 100, 50},
		{499, 0, 200, 199, 133, 99},
		{500, 100, 200, 200, 133, 100},
		{501, 100, 300, 200, 133, 100},
		{1499, 100, 300, 299, 239, 199},
		{1500, 200, 300, 300, 240, 200},
		{1501, 200, 400, 300, 240, 200},
		{3000, 300, 400, 375, 337, 300},
		{3500, 300, 400, 400, 362, 325},
		{3501, 300, 500, 401, 362, 325},
		{4250, 300, 500, 401, 400, 362},
		{4251, 300, 500, 401, 401, 362},
		{5000, 400, 500, 401, 401, 400},
		{5001, 400, 500, 401, 401, 401},
	} {
		if low, high := Low(made, x.v), High(made, x.v); low != x.low || high != x.high {
			t.Errorf("of %d: Low, High: %d, %d, not %d, %d", x.v, low, high, x.low, x.high)
		}
		least, half, most := True(made, x.v, 0), True(made, x.v, 500), True(made, x.v, 1000)
		if least != x.least || half != x.half || most != x.most {
			t.Errorf("True of %d: %d, %d, %d, not %d, %d, %d", x.v, least, half, most, x.least, x.half, x.most)
		}
		// a part outside counts as the nearest
		if True(made, x.v, -1) != least || True(made, x.v, lowest) != least || True(made, x.v, 1001) != most || True(made, x.v, highest) != most {
			t.Errorf("True of %d, of parts outside: %d, %d", x.v, True(made, x.v, lowest), True(made, x.v, highest))
		}
	}
}

// P5.1: a well whose lower bounds are noughts may be full of anything; one of less than a nanolitre is full of one.
func TestLevelsOfLittleWells(t *testing.T) {
	thin := of(t, round(1000, 1, 1))
	if Low(thin, 0) != 0 || High(thin, 0) != 0 || True(thin, 0, 0) != 0 || True(thin, 0, 1000) != 0 {
		t.Errorf("of nothing: %d, %d", Low(thin, 0), High(thin, 0))
	}
	if Low(thin, 1) != 1000 || High(thin, 1) != 1100 || True(thin, 1, 0) != 1001 || True(thin, 1, 1000) != 1001 {
		t.Errorf("of one: %d, %d, %d", Low(thin, 1), High(thin, 1), True(thin, 1, 0))
	}
	// exactly one nanolitre, then one cubic micrometre for each height more
	full, more := of(t, box(100, 100, 100, 100, 100)), of(t, box(100, 100, 100, 100, 100), box(100, 1, 1, 1, 1))
	if Low(full, 1) != 100 || High(full, 1) != 100 || True(full, 1, 500) != 100 || Low(full, 2) != 100 || High(full, 2) != 200 || True(full, 2, 500) != 101 {
		t.Errorf("of a nanolitre: %d, %d", Low(full, 1), High(full, 1))
	}
	if Low(more, 1) != 100 || High(more, 1) != 100 || True(more, 1, 500) != 100 || Low(more, 2) != 200 || High(more, 2) != 300 || True(more, 2, 500) != 201 {
		t.Errorf("of a little more: %d, %d", Low(more, 1), High(more, 1))
	}
}

// P5.1
func TestLevelsOfMany(t *testing.T) {
	r := rand.New(rand.NewSource(1))
	for _, s := range shapes(2, 60) {
		made := of(t, s...)
		for _, v := range volumes(made, r) {
			if got, want := Low(made, v), wantLow(made, v); got != want {
				t.Errorf("of %v: Low(%d): %d, not %d", s, v, got, want)
			}
			if got, want := High(made, v), wantHigh(made, v); got != want {
				t.Errorf("of %v: High(%d): %d, not %d", s, v, got, want)
			}
			for _, part := range append(parts(), r.Int63n(1001)) {
				if got, want := True(made, v, part), wantTrue(made, v, part); got != want {
					t.Errorf("of %v: True(%d, %d): %d, not %d", s, v, part, got, want)
				}
			}
		}
	}
}

// P5.2
func TestVolume(t *testing.T) {
	// nanolitres: lower bounds 0, 0, 500, 1500; upper bounds 0, 500, 1500, 3000
	wedge := of(t, box(300, 0, 1000, 15000, 1000))
	for _, x := range []struct{ h, down, up int64 }{
		{lowest, 0, 0},
		{-101, 0, 0},
		{-100, 0, 0},
		{-1, 0, 0},
		{0, 0, 0},
		{1, 0, 500},
		{99, 0, 500},
		{100, 0, 500},
		{101, 0, 1500},
		{199, 0, 1500},
		{200, 500, 1500},
		{201, 500, 3000},
		{299, 500, 3000},
		{300, 1500, 3000},
		{301, 1500, 3000},
		{1000, 1500, 3000},
		{highest - 99, 1500, 3000},
		{highest, 1500, 3000},
	} {
		if down, up := Volume(wedge, x.h, false), Volume(wedge, x.h, true); down != x.down || up != x.up {
			t.Errorf("Volume at %d: %d, %d, not %d, %d", x.h, down, up, x.down, x.up)
		}
	}
}

// P5.2: what isn't a whole number of nanolitres is made one, upwards or cut.
func TestVolumeIsMadeWhole(t *testing.T) {
	for _, x := range []struct{ a, b, down, up int64 }{
		{1, 1, 0, 1},
		{9999, 1, 0, 1},
		{10000, 1, 1, 1},
		{10001, 1, 1, 2},
		{19999, 1, 1, 2},
		{10000, 2, 2, 2},
	} {
		made := of(t, box(100, x.a, x.b, x.a, x.b))
		if down, up := Volume(made, 100, false), Volume(made, 100, true); down != x.down || up != x.up {
			t.Errorf("of %d by %d: %d, %d, not %d, %d", x.a, x.b, down, up, x.down, x.up)
		}
		if Volume(made, 0, false) != 0 || Volume(made, 0, true) != 0 {
			t.Errorf("of %d by %d, at 0: %d, %d", x.a, x.b, Volume(made, 0, false), Volume(made, 0, true))
		}
	}
}

// P5.2
func TestVolumesOfMany(t *testing.T) {
	r := rand.New(rand.NewSource(3))
	for _, s := range shapes(4, 60) {
		made := of(t, s...)
		heights := []int64{lowest, lowest + 1, -1, 0, 1, made.Height() - 1, made.Height(), made.Height() + 1, highest - 98, highest}
		for range 100 {
			h := r.Int63n(made.Height() + 300)
			heights = append(heights, h, h/100*100)
		}
		for _, h := range heights {
			for _, up := range []bool{false, true} {
				if got, want := Volume(made, h, up), wantVolume(made, h, up); got != want {
					t.Errorf("of %v: Volume(%d, %v): %d, not %d", s, h, up, got, want)
				}
			}
		}
	}
}

// P5.1, P5.2: of no table.
func TestOfNoTable(t *testing.T) {
	for _, v := range []int64{lowest, -1, 0, 1, 100, highest} {
		for _, part := range parts() {
			if True(nil, v, part) != 0 {
				t.Errorf("True(nil, %d, %d): %d", v, part, True(nil, v, part))
			}
		}
		if Low(nil, v) != 0 || High(nil, v) != 0 || Volume(nil, v, false) != 0 || Volume(nil, v, true) != 0 {
			t.Errorf("of %d: %d, %d, %d, %d", v, Low(nil, v), High(nil, v), Volume(nil, v, false), Volume(nil, v, true))
		}
	}
}

// P5.3: wherever between its bounds a well is, its level lies between Low and High, and the wider it is, the lower.
func TestTrueLiesBetween(t *testing.T) {
	r := rand.New(rand.NewSource(5))
	for _, s := range shapes(6, 60) {
		made := of(t, s...)
		for _, v := range volumes(made, r) {
			low, high, last := Low(made, v), High(made, v), int64(highest)
			for part := int64(0); part <= 1000; part += 125 {
				now := True(made, v, part)
				if now < low || now > high || now > last {
					t.Errorf("of %v: True(%d, %d): %d, not from %d to %d, and %d ahead", s, v, part, now, low, high, last)
				}
				last = now
			}
		}
	}
}

func rat(v int64) *big.Rat { return new(big.Rat).SetInt64(v) }

func times(all ...*big.Rat) *big.Rat {
	product := rat(1)
	for _, v := range all {
		product.Mul(product, v)
	}
	return product
}

func plus(all ...*big.Rat) *big.Rat {
	sum := rat(0)
	for _, v := range all {
		sum.Add(sum, v)
	}
	return sum
}

// piece is exactly what a section holds from its bottom up to z, between two numbers that differ by pi's alone: its sides are a0 + p z, b0 + q z.
func piece(x api.Section, z int64) (*big.Rat, *big.Rat) {
	b0, b1 := x.B0, x.B1
	if x.Round {
		b0, b1 = x.A0, x.A1
	}
	p, q, up := big.NewRat(x.A1-x.A0, x.H), big.NewRat(b1-b0, x.H), rat(z)
	first := times(rat(x.A0), rat(b0), up)
	second := times(plus(times(rat(x.A0), q), times(rat(b0), p)), up, up, big.NewRat(1, 2))
	third := times(p, q, up, up, up, big.NewRat(1, 3))
	v := plus(first, second, third)
	if !x.Round {
		return v, v
	}
	return times(v, big.NewRat(314159265358979, 400000000000000)), times(v, big.NewRat(314159265358980, 400000000000000))
}

// exactly is what a well holds up to that height, in nanolitres, between two numbers.
func exactly(s []api.Section, h int64) (*big.Rat, *big.Rat) {
	low, high := rat(0), rat(0)
	for _, x := range s {
		least, most := piece(x, min(h, x.H))
		low, high = plus(low, least), plus(high, most)
		h = max(h-x.H, 0)
	}
	return times(low, big.NewRat(1, 1000000)), times(high, big.NewRat(1, 1000000))
}

// P5.3: in the well that is exactly of that shape, v fills no less than up to Low and no more than up to High.
func TestExactLevelsLieBetween(t *testing.T) {
	r := rand.New(rand.NewSource(7))
	for _, s := range shapes(8, 40) {
		made := of(t, s...)
		for range 30 {
			v := r.Int63n(made.High(made.Slices())/1000000 + 2)
			if least, _ := exactly(s, Low(made, v)); least.Cmp(rat(v)) > 0 {
				t.Errorf("of %v: %d fills less than up to %d, where there are %s", s, v, Low(made, v), least.FloatString(6))
			}
			high := High(made, v)
			if high > made.Height() {
				continue
			}
			if _, most := exactly(s, high); most.Cmp(rat(v)) < 0 {
				t.Errorf("of %v: %d fills more than up to %d, where there are %s", s, v, high, most.FloatString(6))
			}
		}
	}
}

// P5.3: what a well exactly holds up to a height lies between the two Volumes.
func TestExactVolumesLieBetween(t *testing.T) {
	r := rand.New(rand.NewSource(9))
	for _, s := range shapes(10, 40) {
		made := of(t, s...)
		for _, h := range []int64{0, 1, 99, 100, r.Int63n(made.Height()), r.Int63n(made.Height()), made.Height() - 1, made.Height()} {
			least, most := exactly(s, h)
			down, up := Volume(made, h, false), Volume(made, h, true)
			if most.Cmp(rat(down)) < 0 || least.Cmp(rat(up)) > 0 {
				t.Errorf("of %v: up to %d there are %s to %s, not %d to %d", s, h, least.FloatString(6), most.FloatString(6), down, up)
			}
		}
	}
}

// tell is all that is answered of a table.
func tell(made *table.Table) string {
	var text []byte
	for v := int64(-1); v < made.High(made.Slices())/1000000+2; v += v/3 + 1 {
		for _, h := range []int64{Low(made, v), High(made, v), True(made, v, 77), True(made, v, 5000), Volume(made, v, false), Volume(made, v, true)} {
			text = strconv.AppendInt(text, h, 10)
			text = append(text, ' ')
		}
	}
	return string(text)
}

// P5.1, P5.2, and DOC.md's eighth rule: the answers hang on the arguments alone, asked again, of the like table, by many at once.
func TestSameAgain(t *testing.T) {
	for _, s := range odd() {
		made := of(t, s...)
		told := tell(made)
		if tell(made) != told || tell(of(t, s...)) != told {
			t.Errorf("%v isn't the same again", s)
		}
		var all sync.WaitGroup
		got := make([]string, 4)
		for k := range got {
			all.Go(func() { got[k] = tell(made) })
		}
		all.Wait()
		for _, text := range got {
			if text != told {
				t.Errorf("%v isn't the same for many at once", s)
			}
		}
	}
}
