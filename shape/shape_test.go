package shape

import (
	"math"
	"math/big"
	"math/rand"
	"slices"
	"testing"

	"dipper/api"
)

const (
	least = math.MinInt64
	most  = math.MaxInt64
)

func round(h, a0, a1 int64) api.Section { return api.Section{Round: true, H: h, A0: a0, A1: a1} }

func box(h, a0, b0, a1, b1 int64) api.Section {
	return api.Section{H: h, A0: a0, B0: b0, A1: a1, B1: b1}
}

func list(s ...api.Section) []api.Section { return s }

// fields are the numbers of a section, so that a test may change each of them.
func fields(x *api.Section) []*int64 { return []*int64{&x.H, &x.A0, &x.B0, &x.A1, &x.B1} }

func pick(r *rand.Rand, of []int64) int64 { return of[r.Intn(len(of))] }

func pickSection(r *rand.Rand, heights, sides []int64) api.Section {
	x := box(pick(r, heights), pick(r, sides), pick(r, sides), pick(r, sides), pick(r, sides))
	x.Round = r.Intn(2) == 0
	// most round ones would be wrong otherwise
	if x.Round && r.Intn(4) > 0 {
		x.B0, x.B1 = 0, 0
	}
	return x
}

func pickList(r *rand.Rand, n int, heights, sides []int64) []api.Section {
	var s []api.Section
	for range n {
		s = append(s, pickSection(r, heights, sides))
	}
	return s
}

// right is what Right should answer, promise word by promise word, with a sum that can't run over.
func right(s []api.Section) bool {
	sum := new(big.Int)
	for i := range s {
		x := s[i]
		sum.Add(sum, big.NewInt(x.H))
		for _, side := range fields(&x)[1:] {
			if *side < 0 || *side > 20000 {
				return false
			}
		}
		if x.H <= 0 || x.H%100 != 0 || x.A1 == 0 || x.Round && (x.B0 != 0 || x.B1 != 0) || !x.Round && x.B1 == 0 {
			return false
		}
	}
	return len(s) >= 1 && len(s) <= 4 && sum.Cmp(big.NewInt(60000)) <= 0
}

// line is the exact side at that height of one that goes from a to b.
func line(a, b, at, h int64) *big.Rat {
	gain := new(big.Rat).SetFrac(new(big.Int).Mul(big.NewInt(b-a), big.NewInt(at)), big.NewInt(h))
	return gain.Add(gain, new(big.Rat).SetInt64(a))
}

// whole is the whole number next to v; Div of math/big goes downwards where the divisor is above nought, as each of a Rat is.
func whole(v *big.Rat, up bool) int64 {
	n := new(big.Int).Set(v.Num())
	if up {
		n.Neg(n)
	}
	n.Div(n, v.Denom())
	if up {
		n.Neg(n)
	}
	return n.Int64()
}

// sides are what Side should answer.
func sides(x api.Section, at int64, up bool) (int64, int64) {
	for _, side := range fields(&x)[1:] {
		if *side < 0 || *side > 20000 {
			return 0, 0
		}
	}
	if x.H < 1 {
		return 0, 0
	}
	if at < 0 {
		at = 0
	}
	if at > x.H {
		at = x.H
	}
	a, b := whole(line(x.A0, x.A1, at, x.H), up), whole(line(x.B0, x.B1, at, x.H), up)
	if x.Round {
		b = 0
	}
	return a, b
}

func checkSide(t *testing.T, x api.Section, at int64) {
	t.Helper()
	for _, up := range []bool{false, true} {
		wantA, wantB := sides(x, at, up)
		if a, b := Side(x, at, up); a != wantA || b != wantB {
			t.Errorf("Side(%v, %d, %v): %d, %d, not %d, %d", x, at, up, a, b, wantA, wantB)
		}
	}
}

// P3.1
func TestRight(t *testing.T) {
	b := box(100, 1, 1, 1, 1)
	for _, x := range []struct {
		s    []api.Section
		want bool
	}{
		{list(round(5000, 3000, 6000), round(100, 6000, 6400)), true},
		{list(box(2000, 0, 0, 8000, 9000), round(300, 1, 2), box(100, 1, 2, 3, 4)), true},
		{nil, false},
		{list(), false},
		{list(b), true},
		{list(b, b, b, b), true},
		{list(b, b, b, b, b), false},
		{list(round(99, 0, 1)), false},
		{list(round(100, 0, 1)), true},
		{list(round(101, 0, 1)), false},
		{list(round(1, 0, 1)), false},
		{list(round(0, 0, 1)), false},
		{list(round(-100, 0, 1)), false},
		{list(round(59900, 0, 1)), true},
		{list(round(60000, 0, 1)), true},
		{list(round(60100, 0, 1)), false},
		{list(round(59900, 0, 1), b), true},
		{list(round(60000, 0, 1), b), false},
		{list(round(100, 0, 20000)), true},
		{list(round(100, 20000, 1)), true},
		{list(round(100, 0, 20001)), false},
		{list(round(100, 20001, 1)), false},
		{list(round(100, -1, 1)), false},
		{list(round(100, 1, 0)), false},
		{list(round(100, 1, -1)), false},
		{list(box(100, 0, 0, 20000, 20000)), true},
		{list(box(100, 20000, 20000, 1, 1)), true},
		{list(box(100, 1, 1, 0, 1)), false},
		{list(box(100, 1, 1, 1, 0)), false},
		{list(box(100, 0, 1, 1, 1)), true},
		{list(box(100, 1, 0, 1, 1)), true},
		{list(box(100, 1, 20001, 1, 1)), false},
		{list(box(100, 1, -1, 1, 1)), false},
		{list(box(100, 1, 1, 1, 20001)), false},
		{list(box(100, 1, 1, 1, -1)), false},
		{list(api.Section{Round: true, H: 100, A0: 1, A1: 1, B0: 1}), false},
		{list(api.Section{Round: true, H: 100, A0: 1, A1: 1, B1: 1}), false},
		{list(api.Section{}), false},
	} {
		if got := Right(x.s); got != x.want {
			t.Errorf("Right(%v): %v", x.s, got)
		}
	}
}

// P3.1: one wrong section makes all of them wrong, wherever it stands.
func TestRightOfEachSection(t *testing.T) {
	for n := 1; n <= 4; n++ {
		for i := range n {
			for _, bad := range []api.Section{round(50, 0, 1), round(0, 0, 1), round(100, 1, 0), box(100, 1, 1, 1, 0), round(100, 20001, 1)} {
				s := slices.Repeat(list(round(100, 0, 1)), n)
				if !Right(s) {
					t.Errorf("Right(%v): false", s)
				}
				s[i] = bad
				if Right(s) {
					t.Errorf("Right(%v): true", s)
				}
			}
		}
	}
}

// P3.1: heights that would wrap round to few are too many all the same, and none below 0 makes room for others.
func TestRightOfGreatHeights(t *testing.T) {
	quarter := int64(1) << 62
	for _, s := range [][]api.Section{
		list(round(quarter, 0, 1), round(quarter, 0, 1), round(quarter, 0, 1), round(quarter, 0, 1)),
		list(round(most-7, 0, 1), round(most-7, 0, 1), round(100, 0, 1)),
		list(round(most-7, 0, 1)),
		list(round(least+8, 0, 1)),
		list(round(least, 0, 1), round(least, 0, 1), round(100, 0, 1)),
		list(round(60100, 0, 1), round(-100, 0, 1)),
		list(round(-100, 0, 1), round(60100, 0, 1)),
	} {
		if Right(s) {
			t.Errorf("Right(%v): true", s)
		}
	}
}

// P3.1
func TestRightOfMany(t *testing.T) {
	r := rand.New(rand.NewSource(1))
	heights := []int64{100, 100, 200, 15000, 20000, 29900, 30000, 60000}
	oddHeights := append([]int64{0, -100, 50, 150, 60100, most, most - 7, least}, heights...)
	plain := []int64{1, 2, 10000, 19999, 20000}
	odd := append([]int64{0, 0, -1, 20001, most, least}, plain...)
	found := map[bool]int{}
	for range 100000 {
		n := r.Intn(6)
		for _, s := range [][]api.Section{pickList(r, n, heights, plain), pickList(r, n, oddHeights, plain), pickList(r, n, heights, odd)} {
			got := Right(s)
			found[got]++
			if got != right(s) {
				t.Errorf("Right(%v): %v", s, got)
			}
		}
	}
	if found[true] < 10000 || found[false] < 10000 {
		t.Errorf("too few of one kind were tried: %v", found)
	}
}

// P3.1: of any list, Right or not.
func TestHeight(t *testing.T) {
	for _, x := range []struct {
		s    []api.Section
		want int64
	}{
		{nil, 0},
		{list(), 0},
		{list(round(100, 0, 1)), 100},
		{list(round(300, 0, 1), box(700, 1, 1, 1, 1)), 1000},
		{list(round(300, 9, 9), box(700, 9, 9, 9, 9), round(1, 0, 0), round(20, 0, 0), round(4000, 0, 0)), 5021},
		{list(round(-5, 0, 1), round(3, 0, 1)), -2},
		{list(round(60000, 0, 1), round(60000, 0, 1)), 120000},
		{list(round(most-1, 0, 1), round(1, 0, 1)), most},
		{list(round(least+1, 0, 1), round(-1, 0, 1)), least},
	} {
		if got := Height(x.s); got != x.want {
			t.Errorf("Height(%v): %d, not %d", x.s, got, x.want)
		}
	}
}

// P3.1: a field that is another makes a shape another.
func TestSameAndKeyOfEachField(t *testing.T) {
	s := list(round(100, 1, 2), box(200, 3, 4, 5, 6), round(300, 7, 8))
	if !Same(s, slices.Clone(s)) || Key(s) != Key(slices.Clone(s)) {
		t.Errorf("%v isn't the Same as itself", s)
	}
	apart := func(o []api.Section) {
		t.Helper()
		if Same(s, o) || Same(o, s) || Key(s) == Key(o) {
			t.Errorf("Same of %v, %v; Keys %q, %q", s, o, Key(s), Key(o))
		}
	}
	for i := range s {
		for k := range fields(&s[i]) {
			for _, v := range []int64{1, -1, 10, -9, 1 << 32, least, most} {
				o := slices.Clone(s)
				*fields(&o[i])[k] += v
				apart(o)
			}
		}
		o := slices.Clone(s)
		o[i].Round = !o[i].Round
		apart(o)
		apart(s[:i])
		apart(s[i+1:])
		apart(slices.Insert(slices.Clone(s), i, s[i]))
	}
	apart(nil)
	apart(list(s[1], s[0], s[2]))
	apart(append(slices.Clone(s), api.Section{}))
}

// P3.1: numbers that make one row of digits together are still apart.
func TestKeyOfLikeNumbers(t *testing.T) {
	all := [][]api.Section{
		nil, list(api.Section{}), list(api.Section{}, api.Section{}), list(api.Section{Round: true}),
		list(box(1, 11, 1, 1, 1)), list(box(11, 1, 1, 1, 1)), list(box(1, 1, 11, 1, 1)), list(box(1, 1, 1, 11, 1)), list(box(1, 1, 1, 1, 11)),
		list(box(-1, 1, 1, 1, 1)), list(box(1, -1, 1, 1, 1)), list(box(1, 1, -1, 1, 1)), list(box(1, 1, 1, -1, 1)), list(box(1, 1, 1, 1, -1)),
		list(box(1, 1, 1, 1, 1), box(11, 1, 1, 1, 1)), list(box(1, 1, 1, 1, 11), box(1, 1, 1, 1, 1)),
		list(box(least, most, least, most, 0)), list(box(most, least, most, least, 0)), list(box(least, most, least, most, 0), api.Section{}),
	}
	for i, a := range all {
		for k, b := range all {
			if Same(a, b) != (i == k) || (Key(a) == Key(b)) != (i == k) {
				t.Errorf("Same of %v, %v: %v; Keys %q, %q", a, b, Same(a, b), Key(a), Key(b))
			}
		}
	}
	if !Same(nil, list()) || !Same(list(), nil) || Key(nil) != Key(list()) {
		t.Error("a nil list isn't the Same as an empty one")
	}
}

// same is what Same should answer.
func same(a, b []api.Section) bool {
	if len(a) != len(b) {
		return false
	}
	for i := range a {
		for k := range fields(&a[i]) {
			if *fields(&a[i])[k] != *fields(&b[i])[k] {
				return false
			}
		}
		if a[i].Round != b[i].Round {
			return false
		}
	}
	return true
}

// P3.1: few numbers, so that many are the Same.
func TestSameAndKeyOfMany(t *testing.T) {
	r := rand.New(rand.NewSource(2))
	found := map[string][]api.Section{}
	met := 0
	for range 50000 {
		s := pickList(r, r.Intn(3), []int64{1, 11}, []int64{-1, 1, 11})
		other, ok := found[Key(s)]
		if ok {
			met++
			if !same(s, other) || !Same(s, other) {
				t.Errorf("%v, %v have one Key: %q", s, other, Key(s))
			}
		}
		found[Key(s)] = s
		o := pickList(r, len(s), []int64{1}, []int64{1})
		if Same(s, o) != same(s, o) || (Key(s) == Key(o)) != same(s, o) {
			t.Errorf("Same of %v, %v: %v; Keys %q, %q", s, o, Same(s, o), Key(s), Key(o))
		}
	}
	if met < 1000 {
		t.Errorf("too few were met again: %d", met)
	}
}

// P3.2
func TestSide(t *testing.T) {
	for _, x := range []struct {
		s    api.Section
		at   int64
		up   bool
		a, b int64
	}{
		{round(200, 0, 100), 100, false, 50, 0}, // the chapter's example
		{round(200, 0, 100), 100, true, 50, 0},
		{round(300, 0, 100), 100, false, 33, 0},
		{round(300, 0, 100), 100, true, 34, 0},
		{round(300, 100, 0), 100, false, 66, 0},
		{round(300, 100, 0), 100, true, 67, 0},
		{round(20000, 1, 0), 1, false, 0, 0},
		{round(20000, 1, 0), 1, true, 1, 0},
		{round(20000, 0, 1), 1, false, 0, 0},
		{round(20000, 0, 1), 1, true, 1, 0},
		{box(300, 0, 100, 100, 0), 100, false, 33, 66},
		{box(300, 0, 100, 100, 0), 100, true, 34, 67},
		{box(300, 7, 20, 7, 20), 77, false, 7, 20},
		{box(300, 7, 20, 7, 20), 77, true, 7, 20},
		{box(300, 1, 2, 3, 4), 0, true, 1, 2},
		{box(300, 1, 2, 3, 4), 300, false, 3, 4},
		{box(300, 20000, 0, 0, 20000), 299, true, 67, 19934},
		{box(300, 20000, 0, 0, 20000), 299, false, 66, 19933},
		{api.Section{H: 100}, 50, true, 0, 0},
	} {
		if a, b := Side(x.s, x.at, x.up); a != x.a || b != x.b {
			t.Errorf("Side(%v, %d, %v): %d, %d, not %d, %d", x.s, x.at, x.up, a, b, x.a, x.b)
		}
	}
}

// P3.2: a height below 0 counts as 0, one above H as H.
func TestSideOfHeightsOutside(t *testing.T) {
	x := box(300, 11, 22, 33, 44)
	for _, up := range []bool{false, true} {
		for _, at := range []int64{0, -1, -300, least + 1, least} {
			if a, b := Side(x, at, up); a != 11 || b != 22 {
				t.Errorf("Side at %d: %d, %d", at, a, b)
			}
		}
		for _, at := range []int64{300, 301, 600, most - 1, most} {
			if a, b := Side(x, at, up); a != 33 || b != 44 {
				t.Errorf("Side at %d: %d, %d", at, a, b)
			}
		}
	}
}

// P3.2: no sides of a section that has no height, or a side that isn't 0 to MaxSide.
func TestSideOfWrongSections(t *testing.T) {
	for _, isRound := range []bool{false, true} {
		good := box(200, 10, 20, 30, 40)
		good.Round = isRound
		if a, _ := Side(good, 100, false); a != 20 {
			t.Errorf("Side(%v, 100, false): %d", good, a)
		}
		for k := range fields(&good) {
			wrong := []int64{-1, least, 20001, most}
			if k == 0 {
				wrong = []int64{0, -1, -200, least}
			}
			for _, v := range wrong {
				bad := good
				*fields(&bad)[k] = v
				for _, at := range []int64{least, -1, 0, 1, 100, 200, most} {
					for _, up := range []bool{false, true} {
						if a, b := Side(bad, at, up); a != 0 || b != 0 {
							t.Errorf("Side(%v, %d, %v): %d, %d", bad, at, up, a, b)
						}
					}
				}
			}
		}
	}
}

// P3.2: sections needn't be Right: any H from 1 on has sides, and a round one's B is 0 whatever its B0 and B1 are.
func TestSideOfOddSections(t *testing.T) {
	for _, x := range []struct {
		s    api.Section
		at   int64
		up   bool
		a, b int64
	}{
		{round(1, 3, 5), 0, false, 3, 0},
		{round(1, 3, 5), 1, false, 5, 0},
		{round(7, 0, 20000), 3, false, 8571, 0},
		{round(7, 0, 20000), 3, true, 8572, 0},
		{round(70000, 0, 10), 35000, false, 5, 0},
		{round(100, 10, 0), 50, false, 5, 0},
		{round(most, 0, 20000), most - 1, false, 19999, 0},
		{round(most, 0, 20000), most - 1, true, 20000, 0},
		{round(most, 20000, 0), most - 1, false, 0, 0},
		{round(most, 20000, 0), most - 1, true, 1, 0},
		{box(most, 0, 20000, 20000, 0), most / 2, true, 10000, 10001},
		{api.Section{Round: true, H: 100, A0: 1, A1: 1, B0: 5, B1: 5}, 50, false, 1, 0},
		{api.Section{Round: true, H: 100, A0: 1, A1: 1, B0: 20000, B1: 20000}, 50, true, 1, 0},
	} {
		if a, b := Side(x.s, x.at, x.up); a != x.a || b != x.b {
			t.Errorf("Side(%v, %d, %v): %d, %d, not %d, %d", x.s, x.at, x.up, a, b, x.a, x.b)
		}
	}
}

// P3.2
func TestSideOfMany(t *testing.T) {
	r := rand.New(rand.NewSource(3))
	heights := []int64{least, -1, 0, 1, 2, 3, 7, 100, 300, 60000, most - 1, most}
	odd := []int64{-1, 0, 1, 2, 99, 9999, 19999, 20000, 20001}
	for range 100000 {
		x := pickSection(r, heights, odd)
		checkSide(t, x, int64(r.Uint64())>>r.Intn(64))
		x = pickSection(r, heights[3:], odd[1:8])
		checkSide(t, x, r.Int63n(x.H))
		checkSide(t, x, x.H-r.Int63n(min(x.H, 3)))
	}
}

// P3.3: at each height the side down and the side up lie about the straight line from end to end, and less than 1 from it.
func TestSidesAreStraight(t *testing.T) {
	one := new(big.Rat).SetInt64(1)
	for _, x := range []api.Section{round(300, 0, 100), round(700, 20000, 1), round(100, 5, 5), box(600, 0, 20000, 19999, 3), box(1100, 50, 0, 3, 7)} {
		for at := int64(0); at <= x.H; at++ {
			downA, downB := Side(x, at, false)
			upA, upB := Side(x, at, true)
			for _, y := range []struct {
				down, up int64
				on       *big.Rat
			}{{downA, upA, line(x.A0, x.A1, at, x.H)}, {downB, upB, line(x.B0, x.B1, at, x.H)}} {
				below := new(big.Rat).Sub(y.on, new(big.Rat).SetInt64(y.down))
				above := new(big.Rat).Sub(new(big.Rat).SetInt64(y.up), y.on)
				if below.Sign() < 0 || below.Cmp(one) >= 0 || above.Sign() < 0 || above.Cmp(one) >= 0 {
					t.Errorf("Side(%v, %d): %d, %d, not about %v", x, at, y.down, y.up, y.on)
				}
			}
		}
	}
}

// P3.3: a section is the same upside down, and one that is cut where its sides are whole has the sides of its pieces.
func TestSidesOfTurnedAndCut(t *testing.T) {
	r := rand.New(rand.NewSource(4))
	for range 2000 {
		// steps of a whole width each, so that it can be cut behind each of them
		n, wide := 2+r.Int63n(9), 1+r.Int63n(300)
		x := box(n*wide, r.Int63n(5000), 5000+r.Int63n(5000), 0, 0)
		x.A1, x.B1 = x.A0+n*r.Int63n(100), x.B0-n*r.Int63n(100)
		turned := box(x.H, x.A1, x.B1, x.A0, x.B0)
		cut := wide * (1 + r.Int63n(n-1))
		lower, upper := x, x
		lower.H, upper.H = cut, x.H-cut
		lower.A1, lower.B1 = Side(x, cut, false)
		upper.A0, upper.B0 = lower.A1, lower.B1
		for at := int64(0); at <= x.H; at += 1 + r.Int63n(9) {
			for _, up := range []bool{false, true} {
				piece, from := lower, int64(0)
				if at > cut {
					piece, from = upper, cut
				}
				a, b := Side(x, at, up)
				turnedA, turnedB := Side(turned, x.H-at, up)
				pieceA, pieceB := Side(piece, at-from, up)
				if a != turnedA || b != turnedB {
					t.Errorf("Side(%v, %d, %v): %d, %d, but %d, %d upside down", x, at, up, a, b, turnedA, turnedB)
				}
				if a != pieceA || b != pieceB {
					t.Errorf("Side(%v, %d, %v): %d, %d, but %d, %d of its piece %v", x, at, up, a, b, pieceA, pieceB, piece)
				}
			}
		}
	}
}

// P3.1, and DOC.md's third rule: a list isn't changed, the spare room behind it included, and what stands in that room counts for nothing.
func TestListsAreLeftAlone(t *testing.T) {
	whole := list(round(100, 1, 2), box(200, 3, 4, 5, 6), round(-1, 9, 9))
	before := slices.Clone(whole)
	s := whole[:2]
	if !Right(s) || Height(s) != 300 || !Same(s, before[:2:2]) || Key(s) != Key(before[:2:2]) {
		t.Errorf("the room behind %v counts", s)
	}
	if !slices.Equal(whole, before) {
		t.Errorf("%v was changed: %v", before, whole)
	}
}
