package qmath

import (
	"math"
	"math/big"
	"math/rand"
	"testing"

	"dipper/api"
)

const (
	least = math.MinInt64
	most  = math.MaxInt64
)

// told is what a call answers.
type told struct {
	v int64
	e api.Errno
}

func tell(v int64, e api.Errno) told { return told{v, e} }

// exact is what a call should answer, if the exact number is v.
func exact(v *big.Int) told {
	if !v.IsInt64() {
		return told{0, api.ErrOver}
	}
	return told{v.Int64(), api.OK}
}

// quotient is a times b by by, made whole; Div of math/big leaves a rest from 0 on, so that a divisor above nought makes it go downwards.
func quotient(a, b, by int64, up bool) *big.Int {
	product, divisor := new(big.Int).Mul(big.NewInt(a), big.NewInt(b)), big.NewInt(by)
	if by < 0 {
		product.Neg(product)
		divisor.Neg(divisor)
	}
	if up {
		product.Neg(product)
	}
	product.Div(product, divisor)
	if up {
		product.Neg(product)
	}
	return product
}

func checkSums(t *testing.T, a, b int64) {
	t.Helper()
	x, y := big.NewInt(a), big.NewInt(b)
	if got, want := tell(Add(a, b)), exact(new(big.Int).Add(x, y)); got != want {
		t.Errorf("Add(%d, %d): %v, not %v", a, b, got, want)
	}
	if got, want := tell(Sub(a, b)), exact(new(big.Int).Sub(x, y)); got != want {
		t.Errorf("Sub(%d, %d): %v, not %v", a, b, got, want)
	}
	if got, want := tell(Mul(a, b)), exact(new(big.Int).Mul(x, y)); got != want {
		t.Errorf("Mul(%d, %d): %v, not %v", a, b, got, want)
	}
}

func checkMulDiv(t *testing.T, a, b, by int64) {
	t.Helper()
	for _, up := range []bool{false, true} {
		want := told{0, api.ErrZero}
		if by != 0 {
			want = exact(quotient(a, b, by, up))
		}
		if got := tell(MulDiv(a, b, by, up)); got != want {
			t.Errorf("MulDiv(%d, %d, %d, %v): %v, not %v", a, b, by, up, got, want)
		}
	}
}

// checkRoot holds an answer against what a root is, by exact powers.
func checkRoot(t *testing.T, name string, f func(int64, bool) (int64, api.Errno), exponent, a int64) {
	t.Helper()
	of, n := big.NewInt(a), big.NewInt(exponent)
	power := func(r int64) *big.Int { return new(big.Int).Exp(big.NewInt(r), n, nil) }
	r, e := f(a, false)
	if e != api.OK || r < 0 || power(r).Cmp(of) > 0 || power(r+1).Cmp(of) <= 0 {
		t.Errorf("%s(%d, false): %d, %d", name, a, r, e)
	}
	r, e = f(a, true)
	if e != api.OK || r < 0 || power(r).Cmp(of) < 0 || r > 0 && power(r-1).Cmp(of) >= 0 {
		t.Errorf("%s(%d, true): %d, %d", name, a, r, e)
	}
}

func checkRoots(t *testing.T, a int64) {
	t.Helper()
	checkRoot(t, "Sqrt", Sqrt, 2, a)
	checkRoot(t, "Cbrt", Cbrt, 3, a)
}

// edges are the numbers about which something turns over: nought, the ends of 64 bits, halves of them, roots of them.
func edges() []int64 {
	var all []int64
	for _, v := range []int64{0, 1 << 31, 1 << 32, 1 << 62, 3037000499, 2097151, 4294967296} {
		for d := int64(-2); d <= 2; d++ {
			all = append(all, v+d, -v-d)
		}
	}
	for d := int64(0); d < 3; d++ {
		all = append(all, most-d, least+d)
	}
	return all
}

// draw makes a number of any length of bits, so that short ones come too.
func draw(r *rand.Rand) int64 { return int64(r.Uint64()) >> r.Intn(64) }

// P1.1
func TestSumsAreExact(t *testing.T) {
	for _, x := range []struct {
		f    func(a, b int64) (int64, api.Errno)
		a, b int64
		want told
	}{
		{Add, 2, 3, told{5, api.OK}},
		{Add, -2, -3, told{-5, api.OK}},
		{Add, most, least, told{-1, api.OK}},
		{Add, most - 1, 1, told{most, api.OK}},
		{Add, least + 1, -1, told{least, api.OK}},
		{Sub, 2, 3, told{-1, api.OK}},
		{Sub, 2, -3, told{5, api.OK}},
		{Sub, -1, least, told{most, api.OK}},
		{Sub, -1, most, told{least, api.OK}},
		{Sub, least, least, told{0, api.OK}},
		{Mul, -2, 3, told{-6, api.OK}},
		{Mul, -2, -3, told{6, api.OK}},
		{Mul, least, 1, told{least, api.OK}},
		{Mul, 1 << 32, -1 << 31, told{least, api.OK}},
		{Mul, 0, least, told{0, api.OK}},
	} {
		if got := tell(x.f(x.a, x.b)); got != x.want {
			t.Errorf("of %d, %d: %v, not %v", x.a, x.b, got, x.want)
		}
	}
}

// P1.1
func TestMulDivIsMadeWhole(t *testing.T) {
	for _, x := range []struct {
		a, b, by int64
		up       bool
		want     int64
	}{
		{7, 1, 2, true, 4}, // the chapter's example
		{7, 1, 2, false, 3},
		{-7, 1, 2, true, -3},
		{-7, 1, 2, false, -4},
		{7, -1, 2, false, -4},
		{7, 1, -2, false, -4},
		{7, 1, -2, true, -3},
		{-7, -1, -2, false, -4},
		{-7, 1, -2, true, 4},
		{8, 1, 2, true, 4},
		{-8, 1, 2, false, -4},
		{1, 1, 2, false, 0},
		{1, -1, 2, true, 0},
		{1, -1, 2, false, -1},
		{0, -5, 7, false, 0},
		{0, 5, -7, true, 0},
		{most, most, most, false, most},
		{least, least, least, false, least},
		{least, most, most, true, least},
		{most, most, least, true, -(most - 1)},
		{most, most, least, false, -most},
		{1, 1, least, true, 0},
		{1, 1, least, false, -1},
	} {
		if got := tell(MulDiv(x.a, x.b, x.by, x.up)); got != (told{x.want, api.OK}) {
			t.Errorf("MulDiv(%d, %d, %d, %v): %v, not %d", x.a, x.b, x.by, x.up, got, x.want)
		}
	}
}

// P1.1: a rest alone may make a number that doesn't fit of one that does.
func TestMulDivAtTheEnds(t *testing.T) {
	const (
		third   = 6148914691236517205 // times 3: 2^64 - 1
		over    = 67280421310721      // times 274177: 2^64 + 1
		overBy  = 274177
		twice   = 145295143558111 // times 253921: 2^65 - 1
		twiceBy = 253921
	)
	for _, x := range []struct {
		a, b, by int64
		up       bool
		want     told
	}{
		{3, third, 2, false, told{most, api.OK}},
		{3, third, 2, true, told{0, api.ErrOver}},
		{-3, third, 2, true, told{-most, api.OK}},
		{-3, third, 2, false, told{least, api.OK}},
		{over, overBy, 2, false, told{0, api.ErrOver}},
		{over, -overBy, 2, true, told{least, api.OK}},
		{over, -overBy, 2, false, told{0, api.ErrOver}},
		// its size is 2^64 - 1 and a half: one more would wrap round to nought
		{twice, twiceBy, 2, true, told{0, api.ErrOver}},
		{twice, -twiceBy, 2, false, told{0, api.ErrOver}},
		{least, 1, -1, false, told{0, api.ErrOver}},
		{least, 1, 1, true, told{least, api.OK}},
		{least, least, 1, false, told{0, api.ErrOver}},
		{least, most, 1, false, told{0, api.ErrOver}},
	} {
		if got := tell(MulDiv(x.a, x.b, x.by, x.up)); got != x.want {
			t.Errorf("MulDiv(%d, %d, %d, %v): %v, not %v", x.a, x.b, x.by, x.up, got, x.want)
		}
	}
}

// P1.1: ErrZero comes ahead of ErrOver.
func TestMulDivByNought(t *testing.T) {
	for _, a := range edges() {
		for _, b := range edges() {
			for _, up := range []bool{false, true} {
				if got := tell(MulDiv(a, b, 0, up)); got != (told{0, api.ErrZero}) {
					t.Errorf("MulDiv(%d, %d, 0, %v): %v", a, b, up, got)
				}
			}
		}
	}
}

// P1.1
func TestAllEdges(t *testing.T) {
	all := edges()
	for _, a := range all {
		for _, b := range all {
			checkSums(t, a, b)
			for _, by := range all {
				checkMulDiv(t, a, b, by)
			}
		}
	}
}

// P1.1: every sign and rest of small numbers.
func TestSmallNumbers(t *testing.T) {
	for a := int64(-9); a <= 9; a++ {
		for b := int64(-9); b <= 9; b++ {
			checkSums(t, a, b)
			for by := int64(-9); by <= 9; by++ {
				checkMulDiv(t, a, b, by)
			}
		}
	}
}

// P1.1
func TestManyNumbers(t *testing.T) {
	r := rand.New(rand.NewSource(1))
	for range 100000 {
		a, b, by := draw(r), draw(r), draw(r)
		checkSums(t, a, b)
		checkMulDiv(t, a, b, by)
	}
}

// P1.2
func TestRoots(t *testing.T) {
	for _, x := range []struct{ a, square, squareUp, cube, cubeUp int64 }{
		{0, 0, 0, 0, 0},
		{1, 1, 1, 1, 1},
		{2, 1, 2, 1, 2},
		{3, 1, 2, 1, 2},
		{4, 2, 2, 1, 2},
		{8, 2, 3, 2, 2},
		{9, 3, 3, 2, 3},
		{64, 8, 8, 4, 4},
		{999999, 999, 1000, 99, 100},
		{1000000, 1000, 1000, 100, 100},
		{1000001, 1000, 1001, 100, 101},
		{9223372030926249001, 3037000499, 3037000499, 2097151, 2097152}, // the greatest square
		{9223358842721533951, 3036998327, 3036998328, 2097151, 2097151}, // the greatest cube
		{most, 3037000499, 3037000500, 2097151, 2097152},
	} {
		for _, y := range []struct {
			name string
			f    func(int64, bool) (int64, api.Errno)
			up   bool
			want int64
		}{
			{"Sqrt", Sqrt, false, x.square},
			{"Sqrt", Sqrt, true, x.squareUp},
			{"Cbrt", Cbrt, false, x.cube},
			{"Cbrt", Cbrt, true, x.cubeUp},
		} {
			if got := tell(y.f(x.a, y.up)); got != (told{y.want, api.OK}) {
				t.Errorf("%s(%d, %v): %v, not %d", y.name, x.a, y.up, got, y.want)
			}
		}
	}
}

// P1.2: one below, at and one above every square and cube that is tried.
func TestRootsAboutPowers(t *testing.T) {
	r := rand.New(rand.NewSource(2))
	for i := range int64(20000) {
		checkRoots(t, i)
		checkRoots(t, most-i)
		checkRoots(t, r.Int63()>>r.Intn(63))
		square, cube := r.Int63n(3037000499)+1, r.Int63n(2097151)+1
		for d := int64(-1); d <= 1; d++ {
			checkRoots(t, square*square+d)
			checkRoots(t, cube*cube*cube+d)
		}
	}
}

// P1.2
func TestRootsBelowNought(t *testing.T) {
	for _, a := range []int64{-1, -2, -4, -8, -27, least + 1, least} {
		for _, up := range []bool{false, true} {
			if got := tell(Sqrt(a, up)); got != (told{0, api.ErrRange}) {
				t.Errorf("Sqrt(%d, %v): %v", a, up, got)
			}
			if got := tell(Cbrt(a, up)); got != (told{0, api.ErrRange}) {
				t.Errorf("Cbrt(%d, %v): %v", a, up, got)
			}
		}
	}
}

// P1.3: one past what fits is told, and nothing beside it.
func TestNumbersThatDoNotFit(t *testing.T) {
	for _, x := range []struct {
		f    func(a, b int64) (int64, api.Errno)
		a, b int64
	}{
		{Add, most, 1},
		{Add, 1, most},
		{Add, least, -1},
		{Add, most, most},
		{Add, least, least},
		{Sub, most, -1},
		{Sub, least, 1},
		{Sub, 0, least},
		{Sub, most, least},
		{Sub, least, most},
		{Mul, most, 2},
		{Mul, least, -1},
		{Mul, -1, least},
		{Mul, least, least},
		{Mul, 1 << 32, 1 << 31},
		{Mul, 1 << 32, 1 << 32},
		{Mul, 3037000500, 3037000500},
	} {
		if got := tell(x.f(x.a, x.b)); got != (told{0, api.ErrOver}) {
			t.Errorf("of %d, %d: %v", x.a, x.b, got)
		}
	}
}
