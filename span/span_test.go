package span

import (
	"math"
	"math/big"
	"math/rand"
	"testing"

	"dipper/api"
)

const (
	least = math.MinInt64
	most  = math.MaxInt64
)

// told is what a call answers.
type told struct {
	s api.Span
	e api.Errno
}

func tell(s api.Span, e api.Errno) told { return told{s, e} }

func of(lo, hi int64) api.Span { return api.Span{Lo: lo, Hi: hi} }

func fit(lo, hi int64) told { return told{of(lo, hi), api.OK} }

var (
	wrong = told{api.Span{}, api.ErrRange}
	over  = told{api.Span{}, api.ErrOver}
)

// exact is what a call should answer, if the exact ends are lo and hi.
func exact(lo, hi *big.Int) told {
	if !lo.IsInt64() || !hi.IsInt64() {
		return over
	}
	return fit(lo.Int64(), hi.Int64())
}

func plus(a, b int64) *big.Int { return new(big.Int).Add(big.NewInt(a), big.NewInt(b)) }

func minus(a, b int64) *big.Int { return new(big.Int).Sub(big.NewInt(a), big.NewInt(b)) }

func checkPair(t *testing.T, a, b api.Span) {
	t.Helper()
	sum, rest := wrong, wrong
	if a.Lo <= a.Hi && b.Lo <= b.Hi {
		sum = exact(plus(a.Lo, b.Lo), plus(a.Hi, b.Hi))
		rest = exact(minus(a.Lo, b.Hi), minus(a.Hi, b.Lo))
	}
	if got := tell(Add(a, b)); got != sum {
		t.Errorf("Add(%v, %v): %v, not %v", a, b, got, sum)
	}
	if got := tell(Sub(a, b)); got != rest {
		t.Errorf("Sub(%v, %v): %v, not %v", a, b, got, rest)
	}
	joined := b
	if a.Lo < b.Lo {
		joined.Lo = a.Lo
	}
	if a.Hi > b.Hi {
		joined.Hi = a.Hi
	}
	if got := Join(a, b); got != joined {
		t.Errorf("Join(%v, %v): %v, not %v", a, b, got, joined)
	}
}

func checkOne(t *testing.T, s api.Span, v int64) {
	t.Helper()
	wide := wrong
	if s.Lo <= s.Hi && v >= 0 {
		wide = exact(minus(s.Lo, v), plus(s.Hi, v))
	}
	if got := tell(Wide(s, v)); got != wide {
		t.Errorf("Wide(%v, %d): %v, not %v", s, v, got, wide)
	}
	if got, want := Has(s, v), s.Lo <= v && v <= s.Hi; got != want {
		t.Errorf("Has(%v, %d): %v", s, v, got)
	}
	raised := s
	if s.Lo < v {
		raised.Lo = v
	}
	if s.Hi < v {
		raised.Hi = v
	}
	if got := Least(s, v); got != raised {
		t.Errorf("Least(%v, %d): %v, not %v", s, v, got, raised)
	}
}

// draw makes a number of any length of bits, so that short ones come too.
func draw(r *rand.Rand) int64 { return int64(r.Uint64()) >> r.Intn(64) }

// small are all spans with both ends from -n to n, Right or not.
func small(n int64) []api.Span {
	var all []api.Span
	for lo := -n; lo <= n; lo++ {
		for hi := -n; hi <= n; hi++ {
			all = append(all, of(lo, hi))
		}
	}
	return all
}

// P2.1
func TestRight(t *testing.T) {
	for _, x := range []struct {
		s    api.Span
		want bool
	}{
		{of(0, 0), true},
		{of(5, 6), true},
		{of(6, 6), true},
		{of(7, 6), false},
		{of(-1, 1), true},
		{of(1, -1), false},
		{of(least, most), true},
		{of(most, least), false},
		{of(least, least), true},
		{of(most, most), true},
		{of(most, most-1), false},
		{of(least+1, least), false},
	} {
		if got := Right(x.s); got != x.want {
			t.Errorf("Right(%v): %v", x.s, got)
		}
	}
}

// P2.1
func TestSums(t *testing.T) {
	for _, x := range []struct {
		name string
		f    func(a, b api.Span) (api.Span, api.Errno)
		a, b api.Span
		want told
	}{
		{"Sub", Sub, of(5, 6), of(1, 2), fit(3, 5)}, // the chapter's example
		{"Add", Add, of(5, 6), of(1, 2), fit(6, 8)},
		{"Add", Add, of(-5, 6), of(-2, -1), fit(-7, 5)},
		{"Add", Add, of(0, 0), of(least, most), fit(least, most)},
		{"Add", Add, of(least, 0), of(0, most), fit(least, most)},
		{"Add", Add, of(most, most), of(least, least), fit(-1, -1)},
		{"Sub", Sub, of(5, 6), of(5, 6), fit(-1, 1)},
		{"Sub", Sub, of(1, 2), of(5, 9), fit(-8, -3)},
		{"Sub", Sub, of(least, most), of(0, 0), fit(least, most)},
		{"Sub", Sub, of(-1, -1), of(least, most), fit(least, most)},
		{"Sub", Sub, of(least, least), of(least, least), fit(0, 0)},
	} {
		if got := tell(x.f(x.a, x.b)); got != x.want {
			t.Errorf("%s(%v, %v): %v, not %v", x.name, x.a, x.b, got, x.want)
		}
	}
}

// P2.1: a sum is told, if either of its ends alone doesn't fit, and nothing beside it.
func TestSumsThatDoNotFit(t *testing.T) {
	for _, x := range []struct {
		name string
		f    func(a, b api.Span) (api.Span, api.Errno)
		a, b api.Span
		want told
	}{
		{"Add", Add, of(0, most-1), of(0, 1), fit(0, most)},
		{"Add", Add, of(0, most), of(0, 1), over},
		{"Add", Add, of(least+1, 0), of(-1, 0), fit(least, 0)},
		{"Add", Add, of(least, 0), of(-1, 0), over},
		{"Add", Add, of(least, most), of(-1, 1), over},
		{"Sub", Sub, of(least+1, 0), of(0, 1), fit(least, 0)},
		{"Sub", Sub, of(least, 0), of(0, 1), over},
		{"Sub", Sub, of(0, most-1), of(-1, 0), fit(0, most)},
		{"Sub", Sub, of(0, most), of(-1, 0), over},
		{"Sub", Sub, of(0, 0), of(least, 0), over},
		{"Sub", Sub, of(0, 0), of(least+1, 0), fit(0, most)},
		{"Sub", Sub, of(0, 0), of(0, most), fit(-most, 0)},
		{"Sub", Sub, of(least, most), of(-1, 1), over},
	} {
		if got := tell(x.f(x.a, x.b)); got != x.want {
			t.Errorf("%s(%v, %v): %v, not %v", x.name, x.a, x.b, got, x.want)
		}
	}
}

// P2.1
func TestWide(t *testing.T) {
	for _, x := range []struct {
		s    api.Span
		by   int64
		want told
	}{
		{of(5, 6), 2, fit(3, 8)},
		{of(5, 6), 0, fit(5, 6)},
		{of(-1, -1), 3, fit(-4, 2)},
		{of(least, most), 0, fit(least, most)},
		{of(0, 0), most, fit(-most, most)},
		{of(-1, 0), most, fit(least, most)},
		{of(-2, 0), most, over},
		{of(-1, 1), most, over},
		{of(least, 0), 1, over},
		{of(least+1, 0), 1, fit(least, 1)},
		{of(0, most), 1, over},
		{of(0, most-1), 1, fit(-1, most)},
	} {
		if got := tell(Wide(x.s, x.by)); got != x.want {
			t.Errorf("Wide(%v, %d): %v, not %v", x.s, x.by, got, x.want)
		}
	}
}

// P2.1: ErrRange of a span that isn't Right, and of a by below 0, though the ends don't fit either.
func TestErrRangeComesFirst(t *testing.T) {
	right := []api.Span{of(0, 0), of(1, 2), of(least, least), of(most, most), of(least, most)}
	for _, bad := range []api.Span{of(2, 1), of(0, -1), of(most, least), of(most, most-1), of(least+1, least), of(most, 0), of(0, least)} {
		for _, other := range append(right, bad) {
			for _, got := range []told{tell(Add(bad, other)), tell(Add(other, bad)), tell(Sub(bad, other)), tell(Sub(other, bad))} {
				if got != wrong {
					t.Errorf("of %v and %v: %v", bad, other, got)
				}
			}
		}
		for _, by := range []int64{0, 1, most, -1, least} {
			if got := tell(Wide(bad, by)); got != wrong {
				t.Errorf("Wide(%v, %d): %v", bad, by, got)
			}
		}
	}
	for _, s := range right {
		for _, by := range []int64{-1, -2, -most, least} {
			if got := tell(Wide(s, by)); got != wrong {
				t.Errorf("Wide(%v, %d): %v", s, by, got)
			}
		}
	}
}

// P2.1
func TestHas(t *testing.T) {
	for _, x := range []struct {
		s    api.Span
		v    int64
		want bool
	}{
		{of(5, 7), 4, false},
		{of(5, 7), 5, true},
		{of(5, 7), 6, true},
		{of(5, 7), 7, true},
		{of(5, 7), 8, false},
		{of(0, 0), 0, true},
		{of(-7, -5), 6, false},
		{of(7, 5), 5, false}, // none is one of a span that isn't Right
		{of(7, 5), 6, false},
		{of(7, 5), 7, false},
		{of(most, least), 0, false},
		{of(most, least), most, false},
		{of(most, least), least, false},
		{of(least, most), least, true},
		{of(least, most), 0, true},
		{of(least, most), most, true},
		{of(least+1, most), least, false},
		{of(least, most-1), most, false},
		{of(most, most), least, false},
		{of(least, least), most, false},
	} {
		if got := Has(x.s, x.v); got != x.want {
			t.Errorf("Has(%v, %d): %v", x.s, x.v, got)
		}
	}
}

// P2.1: Join and Least take every span as it stands, and have no errors.
func TestJoinAndLeast(t *testing.T) {
	for _, x := range []struct{ a, b, want api.Span }{
		{of(5, 6), of(1, 2), of(1, 6)},
		{of(1, 2), of(5, 6), of(1, 6)},
		{of(1, 9), of(2, 3), of(1, 9)},
		{of(-1, 0), of(-1, 0), of(-1, 0)},
		{of(6, 5), of(7, 1), of(6, 5)},
		{of(9, 1), of(2, 3), of(2, 3)},
		{of(least, least), of(most, most), of(least, most)},
		{of(most, least), of(most, least), of(most, least)},
	} {
		if got := Join(x.a, x.b); got != x.want {
			t.Errorf("Join(%v, %v): %v, not %v", x.a, x.b, got, x.want)
		}
	}
	for _, x := range []struct {
		s    api.Span
		v    int64
		want api.Span
	}{
		{of(-5, 6), 0, of(0, 6)},
		{of(-5, -3), 0, of(0, 0)},
		{of(1, 2), 0, of(1, 2)},
		{of(0, 6), 0, of(0, 6)},
		{of(-6, 0), 0, of(0, 0)},
		{of(9, 1), 5, of(9, 5)},
		{of(least, most), most, of(most, most)},
		{of(least, most), least, of(least, most)},
	} {
		if got := Least(x.s, x.v); got != x.want {
			t.Errorf("Least(%v, %d): %v, not %v", x.s, x.v, got, x.want)
		}
	}
}

// P2.1
func TestAllEdges(t *testing.T) {
	var ends []int64
	for d := int64(0); d <= 2; d++ {
		ends = append(ends, d, -d, least+d, most-d, 1<<62+d, -1<<62-d)
	}
	var all []api.Span
	for _, lo := range ends {
		for _, hi := range ends {
			all = append(all, of(lo, hi))
		}
	}
	for _, a := range all {
		for _, b := range all {
			checkPair(t, a, b)
		}
		for _, v := range ends {
			checkOne(t, a, v)
		}
	}
}

// P2.1
func TestManySpans(t *testing.T) {
	r := rand.New(rand.NewSource(1))
	for range 100000 {
		a, b := of(draw(r), draw(r)), of(draw(r), draw(r))
		checkPair(t, a, b)
		checkOne(t, a, draw(r))
		// turned Right, because most of the others aren't
		a, b = of(min(a.Lo, a.Hi), max(a.Lo, a.Hi)), of(min(b.Lo, b.Hi), max(b.Lo, b.Hi))
		checkPair(t, a, b)
		checkOne(t, a, draw(r))
	}
}

// P2.2: what is true of one of each is one of the answer, and each one of the answer is true of some.
func TestWhatIsTrueIsOneOfThem(t *testing.T) {
	const n = 4
	for _, a := range small(n) {
		for _, b := range small(n) {
			sums, rests, either := map[int64]int{}, map[int64]int{}, map[int64]int{}
			for v := a.Lo; v <= a.Hi; v++ {
				either[v]++
				for w := b.Lo; w <= b.Hi; w++ {
					sums[v+w]++
					rests[v-w]++
				}
			}
			for w := b.Lo; w <= b.Hi; w++ {
				either[w]++
			}
			if !Right(a) || !Right(b) {
				continue
			}
			sum, e := Add(a, b)
			rest, f := Sub(a, b)
			if e != api.OK || f != api.OK {
				t.Fatalf("of %v and %v: %d, %d", a, b, e, f)
			}
			joined := Join(a, b)
			for v := int64(-3 * n); v <= 3*n; v++ {
				if got, want := Has(sum, v), sums[v] > 0; got != want {
					t.Errorf("%d, of %v and %v together: %v", v, a, b, got)
				}
				if got, want := Has(rest, v), rests[v] > 0; got != want {
					t.Errorf("%d, of %v less %v: %v", v, a, b, got)
				}
				if either[v] > 0 && !Has(joined, v) {
					t.Errorf("%d, of %v or %v: none of %v", v, a, b, joined)
				}
			}
		}
	}
}

// P2.2: so too, if a number is off, or is made as great as the least that it may be.
func TestWhatIsTrueOfOne(t *testing.T) {
	const n = 5
	for _, s := range small(n) {
		if !Right(s) {
			continue
		}
		for by := int64(0); by <= n; by++ {
			wide, e := Wide(s, by)
			if e != api.OK {
				t.Fatalf("Wide(%v, %d): %d", s, by, e)
			}
			for v := int64(-3 * n); v <= 3*n; v++ {
				near := s.Lo-by <= v && v <= s.Hi+by
				if got := Has(wide, v); got != near {
					t.Errorf("%d, of %v off by %d: %v", v, s, by, got)
				}
			}
		}
		for floor := int64(-n); floor <= n; floor++ {
			raised := Least(s, floor)
			for v := s.Lo; v <= s.Hi; v++ {
				if !Right(raised) || !Has(raised, max(v, floor)) {
					t.Errorf("%d, at least %d: none of %v", v, floor, raised)
				}
			}
		}
	}
}
