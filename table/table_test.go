package table

import (
	"math"
	"math/big"
	"math/rand"
	"slices"
	"strconv"
	"sync"
	"testing"

	"dipper/api"
)

const (
	least   = math.MinInt64
	most    = math.MaxInt64
	leastAt = math.MinInt
	mostAt  = math.MaxInt
)

func round(h, a0, a1 int64) api.Section { return api.Section{Round: true, H: h, A0: a0, A1: a1} }

func box(h, a0, b0, a1, b1 int64) api.Section {
	return api.Section{H: h, A0: a0, B0: b0, A1: a1, B1: b1}
}

func list(s ...api.Section) []api.Section { return s }

func of(t *testing.T, s ...api.Section) *Table {
	t.Helper()
	made, e := Of(s)
	if e != api.OK || made == nil {
		t.Fatalf("Of(%v): %d", s, e)
	}
	return made
}

func rat(v int64) *big.Rat { return new(big.Rat).SetInt64(v) }

func ratio(a, b int64) *big.Rat { return big.NewRat(a, b) }

func times(all ...*big.Rat) *big.Rat {
	product := rat(1)
	for _, v := range all {
		product.Mul(product, v)
	}
	return product
}

func plus(a, b *big.Rat) *big.Rat { return new(big.Rat).Add(a, b) }

// whole is the whole number next to v; Div of math/big goes downwards where the divisor is above nought, as each of a Rat is.
func whole(v *big.Rat, up bool) int64 {
	n := new(big.Int).Set(v.Num())
	if up {
		n.Neg(n)
	}
	n.Div(n, v.Denom())
	if up {
		n.Neg(n)
	}
	return n.Int64()
}

// line is the exact side at that height of one that goes from a to b.
func line(a, b, at, h int64) *big.Rat {
	return plus(rat(a), times(rat(b-a), ratio(at, h)))
}

// side is line made whole.
func side(a, b, at, h int64, up bool) int64 { return whole(line(a, b, at, h), up) }

// areaOf is an area by its sides, as the chapter has it.
func areaOf(isRound bool, a, b int64, up bool) int64 {
	switch {
	case !isRound:
		return a * b
	case up:
		return whole(times(rat(a), rat(a), ratio(355, 452)), true)
	default:
		return whole(times(rat(a), rat(a), ratio(333, 424)), false)
	}
}

// wantArea is what Area should answer.
func wantArea(x api.Section, at int64, up bool) int64 {
	for _, v := range []int64{x.A0, x.B0, x.A1, x.B1} {
		if v < 0 || v > 20000 {
			return 0
		}
	}
	if x.H < 1 {
		return 0
	}
	if at < 0 {
		at = 0
	}
	if at > x.H {
		at = x.H
	}
	return areaOf(x.Round, side(x.A0, x.A1, at, x.H, up), side(x.B0, x.B1, at, x.H, up), up)
}

// wantSums are what Low and High should answer from 0 to Slices.
func wantSums(s []api.Section) (low, high []int64) {
	low, high = []int64{0}, []int64{0}
	for _, x := range s {
		for at := int64(0); at < x.H; at += 100 {
			end := at + 100
			lesserA := min(side(x.A0, x.A1, at, x.H, false), side(x.A0, x.A1, end, x.H, false))
			lesserB := min(side(x.B0, x.B1, at, x.H, false), side(x.B0, x.B1, end, x.H, false))
			greaterA := max(side(x.A0, x.A1, at, x.H, true), side(x.A0, x.A1, end, x.H, true))
			greaterB := max(side(x.B0, x.B1, at, x.H, true), side(x.B0, x.B1, end, x.H, true))
			low = append(low, low[len(low)-1]+100*areaOf(x.Round, lesserA, lesserB, false))
			high = append(high, high[len(high)-1]+100*areaOf(x.Round, greaterA, greaterB, true))
		}
	}
	return low, high
}

// wantTrue is what True should answer between two bounds.
func wantTrue(low, high, part int64) int64 {
	if part < 0 {
		part = 0
	}
	if part > 1000 {
		part = 1000
	}
	return low + whole(times(rat(high-low), ratio(part, 1000)), false)
}

func checkTable(t *testing.T, s []api.Section) {
	t.Helper()
	made, e := Of(s)
	if e != api.OK {
		t.Fatalf("Of(%v): %d", s, e)
	}
	low, high := wantSums(s)
	if made.Slices() != len(low)-1 || made.Height() != int64(len(low)-1)*100 {
		t.Errorf("of %v: Slices %d, Height %d", s, made.Slices(), made.Height())
	}
	for i := range low {
		if made.Low(i) != low[i] || made.High(i) != high[i] {
			t.Errorf("of %v: Low, High(%d): %d, %d, not %d, %d", s, i, made.Low(i), made.High(i), low[i], high[i])
		}
		for _, part := range []int64{0, 1, 333, 500, 999, 1000} {
			if want := wantTrue(low[i], high[i], part); made.True(i, part) != want {
				t.Errorf("of %v: True(%d, %d): %d, not %d", s, i, part, made.True(i, part), want)
			}
		}
	}
}

// pickSection is one that is Right.
func pickSection(r *rand.Rand) api.Section {
	most := []int64{3, 150, 20000}[r.Intn(3)]
	x := box(100*(1+r.Int63n(60)), r.Int63n(most+1), r.Int63n(most+1), 1+r.Int63n(most), 1+r.Int63n(most))
	if r.Intn(2) == 0 {
		return round(x.H, x.A0, x.A1)
	}
	return x
}

func pickShape(r *rand.Rand) []api.Section {
	var s []api.Section
	for range 1 + r.Intn(4) {
		s = append(s, pickSection(r))
	}
	return s
}

// odd are shapes at whose bounds something turns over.
func odd() [][]api.Section {
	b := box(100, 1, 2, 3, 4)
	return [][]api.Section{
		list(round(100, 0, 1)),
		list(round(60000, 0, 1)),
		list(round(60000, 20000, 20000)),
		list(box(60000, 20000, 20000, 20000, 20000)),
		list(box(60000, 0, 20000, 20000, 1)),
		list(box(30000, 20000, 20000, 1, 1), round(30000, 20000, 1)),
		list(b, b, b, b),
		list(round(300, 7, 1), box(700, 0, 0, 19999, 20000), round(100, 3, 3), box(200, 50, 60, 1, 70)),
	}
}

// P4.1
func TestArea(t *testing.T) {
	for _, x := range []struct {
		s    api.Section
		at   int64
		up   bool
		want int64
	}{
		{box(100, 10, 20, 10, 20), 50, false, 200},
		{box(100, 10, 20, 10, 20), 50, true, 200},
		{box(200, 0, 0, 10, 20), 100, false, 50},
		{box(300, 0, 100, 100, 0), 100, false, 33 * 66},
		{box(300, 0, 100, 100, 0), 100, true, 34 * 67},
		{box(100, 0, 5, 9, 5), 0, true, 0},
		{box(100, 20000, 20000, 20000, 20000), 50, false, 400000000},
		{round(100, 1, 1), 0, false, 0},
		{round(100, 1, 1), 0, true, 1},
		{round(100, 2, 2), 0, false, 3},
		{round(100, 2, 2), 0, true, 4},
		{round(100, 0, 1), 0, false, 0},
		{round(100, 0, 1), 0, true, 0},
		{round(100, 424, 424), 0, false, 424 * 333},
		{round(100, 424, 424), 0, true, 141196},
		{round(100, 452, 452), 0, true, 452 * 355},
		{round(100, 452, 452), 0, false, 160455},
		{round(300, 0, 100), 100, false, 855},
		{round(300, 0, 100), 100, true, 908},
		{round(100, 20000, 20000), 50, false, 314150943},
		{round(100, 20000, 20000), 50, true, 314159293},
	} {
		if got := Area(x.s, x.at, x.up); got != x.want {
			t.Errorf("Area(%v, %d, %v): %d, not %d", x.s, x.at, x.up, got, x.want)
		}
	}
}

// P4.1: the sides are shape.Side's: at heights outside those of the nearest end, of wrong sections none.
func TestAreaOfOddArguments(t *testing.T) {
	x, o := box(300, 11, 22, 33, 44), round(300, 424, 848)
	for _, up := range []bool{false, true} {
		for _, at := range []int64{0, -1, least} {
			if Area(x, at, up) != 242 || Area(o, at, up) != areaOf(true, 424, 0, up) {
				t.Errorf("Area at %d, %v: %d, %d", at, up, Area(x, at, up), Area(o, at, up))
			}
		}
		for _, at := range []int64{300, 301, most} {
			if Area(x, at, up) != 1452 || Area(o, at, up) != areaOf(true, 848, 0, up) {
				t.Errorf("Area at %d, %v: %d, %d", at, up, Area(x, at, up), Area(o, at, up))
			}
		}
	}
	for _, s := range list(box(0, 5, 5, 5, 5), round(-100, 5, 5), round(least, 5, 5), box(100, -1, 5, 5, 5), box(100, 5, 20001, 5, 5), box(100, 5, 5, most, 5), box(100, 5, 5, 5, least), round(100, 20001, 5), round(100, 5, -1), api.Section{Round: true, H: 100, A0: 5, A1: 5, B0: -1}) {
		for _, at := range []int64{least, 0, 50, most} {
			if Area(s, at, true) != 0 || Area(s, at, false) != 0 {
				t.Errorf("Area(%v, %d): %d, %d", s, at, Area(s, at, false), Area(s, at, true))
			}
		}
	}
}

// P4.1
func TestAreaOfMany(t *testing.T) {
	r := rand.New(rand.NewSource(1))
	heights, sides := []int64{least, 0, 1, 7, 100, 60000, most}, []int64{-1, 0, 1, 2, 99, 423, 425, 9999, 19999, 20000, 20001}
	for range 50000 {
		x := pickSection(r)
		// every other section is one that needn't be Right
		if r.Intn(2) == 0 {
			x = box(heights[r.Intn(7)], sides[r.Intn(11)], sides[r.Intn(11)], sides[r.Intn(11)], sides[r.Intn(11)])
			x.Round = r.Intn(2) == 0
		}
		for _, at := range []int64{r.Int63n(max(x.H, 1)), int64(r.Uint64()) >> r.Intn(64)} {
			for _, up := range []bool{false, true} {
				if got, want := Area(x, at, up), wantArea(x, at, up); got != want {
					t.Errorf("Area(%v, %d, %v): %d, not %d", x, at, up, got, want)
				}
			}
		}
	}
}

// P4.2
func TestOf(t *testing.T) {
	for _, x := range []struct {
		s         []api.Section
		low, high []int64
	}{
		// the chapter's example
		{list(box(100, 10, 10, 10, 10)), []int64{0, 10000}, []int64{0, 10000}},
		{list(box(300, 10, 10, 10, 10)), []int64{0, 10000, 20000, 30000}, []int64{0, 10000, 20000, 30000}},
		// a wedge, and one that stands the other way up
		{list(box(300, 0, 10, 300, 10)), []int64{0, 0, 100000, 300000}, []int64{0, 100000, 300000, 600000}},
		{list(box(200, 300, 10, 100, 10)), []int64{0, 200000, 300000}, []int64{0, 300000, 500000}},
		// sides that cross: the lesser a and the lesser b stand at different ends
		{list(box(200, 0, 200, 200, 1)), []int64{0, 0, 10000}, []int64{0, 2000000, 4020000}},
		// sides of a third: each is made whole ahead of the area
		{list(box(300, 0, 1, 100, 1)), []int64{0, 0, 3300, 9900}, []int64{0, 3400, 10100, 20100}},
		// a cone: of nought below, of diameters that grow
		{list(round(200, 0, 848)), []int64{0, 0, 100 * 424 * 333}, []int64{0, 14119600, 14119600 + 56478400}},
		// a tube, then a box on it, then a tube: each has its own kind of area
		{list(round(100, 1000, 1000), box(100, 2, 3, 2, 3), round(100, 1, 1)), []int64{0, 78537700, 78538300, 78538300}, []int64{0, 78539900, 78540500, 78540600}},
	} {
		made := of(t, x.s...)
		if made.Slices() != len(x.low)-1 || made.Height() != int64(len(x.low)-1)*100 {
			t.Fatalf("of %v: Slices %d, Height %d", x.s, made.Slices(), made.Height())
		}
		for i := range x.low {
			if made.Low(i) != x.low[i] || made.High(i) != x.high[i] {
				t.Errorf("of %v: Low, High(%d): %d, %d, not %d, %d", x.s, i, made.Low(i), made.High(i), x.low[i], x.high[i])
			}
		}
	}
}

// P4.2: no table of a shape that isn't Right.
func TestOfWrongShapes(t *testing.T) {
	b := box(100, 1, 1, 1, 1)
	for _, s := range [][]api.Section{
		nil,
		list(),
		list(b, b, b, b, b),
		list(round(0, 1, 1)),
		list(round(-100, 1, 1)),
		list(round(150, 1, 1)),
		list(round(60100, 1, 1)),
		list(round(30000, 1, 1), round(30100, 1, 1)),
		list(round(most, 1, 1)),
		list(round(most-7, 1, 1), round(most-7, 1, 1)),
		list(round(least, 1, 1)),
		list(round(100, 1, 0)),
		list(round(100, 20001, 1)),
		list(round(100, -1, 1)),
		list(box(100, 1, 1, 1, 0)),
		list(box(100, 1, 1, 0, 1)),
		list(box(100, 1, 1, 1, 20001)),
		list(b, box(100, 1, -1, 1, 1)),
		list(api.Section{Round: true, H: 100, A0: 1, A1: 1, B1: 1}),
	} {
		if made, e := Of(s); made != nil || e != api.ErrShape {
			t.Errorf("Of(%v): %v, %d", s, made, e)
		}
	}
}

// P4.2
func TestOfMany(t *testing.T) {
	for _, s := range odd() {
		checkTable(t, s)
	}
	r := rand.New(rand.NewSource(2))
	for range 60 {
		checkTable(t, pickShape(r))
	}
}

// P4.2: a number below 0 counts as 0, one above Slices as Slices.
func TestNumbersOutside(t *testing.T) {
	made := of(t, box(200, 300, 10, 100, 10), round(100, 424, 424))
	for _, part := range []int64{least, 0, 500, 1000, most} {
		for _, i := range []int{leastAt, leastAt + 1, -3, -1, 0} {
			if made.Low(i) != 0 || made.High(i) != 0 || made.True(i, part) != 0 {
				t.Errorf("at %d: %d, %d, True(%d): %d", i, made.Low(i), made.High(i), part, made.True(i, part))
			}
		}
		for _, i := range []int{3, 4, 100, 601, mostAt - 1, mostAt} {
			if made.Low(i) != 300000+14119200 || made.High(i) != 500000+14119600 || made.True(i, part) != wantTrue(14419200, 14619600, part) {
				t.Errorf("at %d: %d, %d, True(%d): %d", i, made.Low(i), made.High(i), part, made.True(i, part))
			}
		}
	}
}

// P4.2: a part that isn't 0 to 1000 counts as the nearest; between them it is cut.
func TestTrue(t *testing.T) {
	wedge, tube := of(t, box(300, 0, 10, 300, 10)), of(t, round(100, 1000, 1000))
	for _, x := range []struct {
		t    *Table
		i    int
		part int64
		want int64
	}{
		{wedge, 2, 0, 100000},
		{wedge, 2, 1, 100200},
		{wedge, 2, 500, 200000},
		{wedge, 2, 999, 299800},
		{wedge, 2, 1000, 300000},
		{wedge, 2, -1, 100000},
		{wedge, 2, least, 100000},
		{wedge, 2, 1001, 300000},
		{wedge, 2, most, 300000},
		{wedge, 0, 1000, 0},
		{wedge, 1, 250, 25000},
		{tube, 1, 0, 78537700},
		{tube, 1, 1, 78537702},
		{tube, 1, 333, 78537700 + 732},
		{tube, 1, 999, 78537700 + 2197},
		{tube, 1, 1000, 78539900},
	} {
		if got := x.t.True(x.i, x.part); got != x.want {
			t.Errorf("True(%d, %d): %d, not %d", x.i, x.part, got, x.want)
		}
	}
	for part := int64(-3); part <= 1003; part++ {
		if got, want := tube.True(1, part), wantTrue(78537700, 78539900, part); got != want {
			t.Errorf("True(1, %d): %d, not %d", part, got, want)
		}
	}
}

// P4.2: the greatest well there is.
func TestGreatest(t *testing.T) {
	made := of(t, box(30000, 20000, 20000, 20000, 20000), box(30000, 20000, 20000, 20000, 20000))
	if made.Slices() != 600 || made.Height() != 60000 || made.Low(600) != 24000000000000 || made.High(600) != 24000000000000 {
		t.Errorf("%d slices, %d high: %d, %d", made.Slices(), made.Height(), made.Low(600), made.High(600))
	}
	made = of(t, box(60000, 0, 0, 20000, 20000))
	if got, want := made.True(600, 999), wantTrue(made.Low(600), made.High(600), 999); got != want {
		t.Errorf("True(600, 999): %d, not %d", got, want)
	}
}

// pi lies between these.
func pi() (*big.Rat, *big.Rat) {
	return ratio(314159265358979, 100000000000000), ratio(314159265358980, 100000000000000)
}

// held is exactly what a straight-sided piece holds up to that height, as a box: the sides are a0 + p z, b0 + q z.
func held(a0, a1, b0, b1, h, upTo int64) *big.Rat {
	p, q, z := ratio(a1-a0, h), ratio(b1-b0, h), rat(upTo)
	first := times(rat(a0), rat(b0), z)
	second := times(plus(times(rat(a0), q), times(rat(b0), p)), z, z, ratio(1, 2))
	third := times(p, q, z, z, z, ratio(1, 3))
	return plus(first, plus(second, third))
}

// holds is what x holds up to that height: between these two.
func holds(x api.Section, upTo int64) (*big.Rat, *big.Rat) {
	if !x.Round {
		v := held(x.A0, x.A1, x.B0, x.B1, x.H, upTo)
		return v, v
	}
	v := times(held(x.A0, x.A1, x.A0, x.A1, x.H, upTo), ratio(1, 4))
	low, high := pi()
	return times(v, low), times(v, high)
}

func checkHeld(t *testing.T, s []api.Section) {
	t.Helper()
	made := of(t, s...)
	low, high, i := rat(0), rat(0), 0
	for _, x := range s {
		var topLow, topHigh *big.Rat
		for at := int64(100); at <= x.H; at += 100 {
			i++
			more, most := holds(x, at)
			topLow, topHigh = plus(low, more), plus(high, most)
			if topLow.Cmp(rat(made.Low(i))) < 0 || topHigh.Cmp(rat(made.High(i))) > 0 {
				t.Errorf("%v holds %v to %v below slice %d, not %d to %d", s, topLow.FloatString(3), topHigh.FloatString(3), i, made.Low(i), made.High(i))
			}
		}
		low, high = topLow, topHigh
	}
}

// P4.3: what a well of these pieces exactly holds, up to each slice, lies between Low and High.
func TestWhatIsHeldLiesBetween(t *testing.T) {
	for _, s := range odd() {
		checkHeld(t, s)
	}
	r := rand.New(rand.NewSource(3))
	for range 100 {
		checkHeld(t, pickShape(r))
	}
}

// P4.3: True goes from Low to High, and neither falls with the part nor with the slice.
func TestTrueLiesBetween(t *testing.T) {
	r := rand.New(rand.NewSource(4))
	for range 60 {
		s := pickShape(r)
		made := of(t, s...)
		for i := 0; i <= made.Slices(); i++ {
			low, high := made.Low(i), made.High(i)
			if made.True(i, 0) != low || made.True(i, 1000) != high {
				t.Errorf("of %v: True(%d): %d to %d", s, i, made.True(i, 0), made.True(i, 1000))
			}
			for part, last := int64(0), low; part <= 1000; part += 1 + r.Int63n(100) {
				now := made.True(i, part)
				if now < last || now > high || made.True(i+1, part) < now {
					t.Errorf("of %v: True(%d, %d): %d", s, i, part, now)
				}
				last = now
			}
		}
	}
}

// P4.2, and DOC.md's third rule: a shape is neither changed nor kept, the spare room behind it included.
func TestShapesAreLeftAlone(t *testing.T) {
	spare := list(round(100, 424, 424), box(200, 3, 4, 5, 6), box(100, 9, 9, 9, 9))
	before := slices.Clone(spare)
	made := of(t, spare[:2]...)
	if !slices.Equal(spare, before) {
		t.Errorf("%v was changed: %v", before, spare)
	}
	told := tell(made)
	for i := range spare {
		spare[i] = round(60000, 20000, 20000)
	}
	if made.Slices() != 3 || made.Height() != 300 || tell(made) != told {
		t.Errorf("the table changed with the shape: %s", tell(made))
	}
}

// tell is all that a table answers.
func tell(made *Table) string {
	var text []byte
	for i := -1; i <= made.Slices()+1; i++ {
		for _, v := range []int64{made.Low(i), made.High(i), made.True(i, 77), made.True(i, 5000)} {
			text = strconv.AppendInt(text, v, 10)
			text = append(text, ' ')
		}
	}
	return string(strconv.AppendInt(text, made.Height(), 10))
}

// P4.2, and DOC.md's eighth rule: a table answers the same again, made again, and asked by many at once.
func TestSameAgain(t *testing.T) {
	for _, s := range odd() {
		made := of(t, s...)
		told := tell(made)
		if again := of(t, s...); again == made || tell(again) != told {
			t.Errorf("%v isn't the same again", s)
		}
		var all sync.WaitGroup
		got := make([]string, 4)
		for k := range got {
			all.Go(func() { got[k] = tell(made) })
		}
		all.Wait()
		for _, text := range got {
			if text != told {
				t.Errorf("%v isn't the same for many at once", s)
			}
		}
	}
}
