package fix_test

import (
	"math"
	"math/big"
	"slices"
	"testing"

	"fulmar/api"
	"fulmar/fix"
)

// edges are numbers at which rounding, clipping or an int itself turns over, and ordinary ones.
func edges() []int {
	l := []int{
		math.MinInt, math.MinInt + 1, math.MaxInt - 1, math.MaxInt,
		-api.Most - 2, -api.Most - 1, -api.Most, -api.Most + 1,
		api.Most - 1, api.Most, api.Most + 1, api.Most + 2,
		1 << 23, 1<<23 - 1, 1<<23 + 1, 1 << 30, -1 << 30, 1 << 62, -1 << 62,
		8388608 * 2, -8388607, 46341, -46341, 741455, 123456789, -987654321,
	}
	for _, x := range []int{0, 1, 2, 3, 5, 63, 64, 65, 127, 128, 129, 255, 256, 257, 384, 511, 512, 513, 768, 1000} {
		l = append(l, x, -x)
	}
	return l
}

func bigOf(x int) *big.Int {
	return clipBig(big.NewInt(int64(x)))
}

func clipBig(x *big.Int) *big.Int {
	most := big.NewInt(2147483647)
	least := new(big.Int).Neg(most)
	if x.Cmp(most) > 0 {
		return most
	}
	if x.Cmp(least) < 0 {
		return least
	}
	return x
}

// nearestBig adds half to the size of the fraction and cuts, a way of its own, apart from the program's.
func nearestBig(n, d *big.Int) int {
	two := big.NewInt(2)
	up := new(big.Int).Mul(two, new(big.Int).Abs(n))
	up.Add(up, new(big.Int).Abs(d))
	q := up.Quo(up, new(big.Int).Mul(two, new(big.Int).Abs(d)))
	if n.Sign()*d.Sign() < 0 {
		q.Neg(q)
	}
	return int(clipBig(q).Int64())
}

// A1: Clip.
func TestClip(t *testing.T) {
	for _, c := range []struct{ x, lo, hi, want int }{
		{5, 0, 10, 5}, {0, 0, 10, 0}, {10, 0, 10, 10},
		{-1, 0, 10, 0}, {11, 0, 10, 10},
		{7, 7, 7, 7}, {6, 7, 7, 7}, {8, 7, 7, 7},
		{5, 10, 0, 10}, {-5, 10, 0, 10}, {15, 10, 0, 10}, {10, 10, 9, 10},
		{math.MaxInt, math.MinInt, math.MaxInt, math.MaxInt},
		{math.MinInt, math.MinInt, math.MaxInt, math.MinInt},
		{math.MaxInt, -3, 4, 4}, {math.MinInt, -3, 4, -3},
		{0, math.MaxInt, math.MinInt, math.MaxInt},
		{1 << 40, 0, 1 << 41, 1 << 40},
	} {
		if got := fix.Clip(c.x, c.lo, c.hi); got != c.want {
			t.Errorf("Clip(%d, %d, %d): %d, want %d", c.x, c.lo, c.hi, got, c.want)
		}
	}
}

// A1: Of.
func TestOf(t *testing.T) {
	for _, c := range []struct{ x, want int }{
		{0, 0}, {-7, -7}, {2147483646, 2147483646}, {2147483647, 2147483647}, {2147483648, 2147483647},
		{-2147483646, -2147483646}, {-2147483647, -2147483647}, {-2147483648, -2147483647},
		{math.MaxInt, 2147483647}, {math.MinInt, -2147483647},
	} {
		if got := fix.Of(c.x); got != c.want {
			t.Errorf("Of(%d): %d, want %d", c.x, got, c.want)
		}
	}
}

// A2: Add clips behind each number, and counts each one as Of.
func TestAdd(t *testing.T) {
	const most = 2147483647
	for _, c := range []struct {
		l    []int
		want int
	}{
		{nil, 0}, {[]int{}, 0}, {[]int{5}, 5}, {[]int{1, 2, 3, -10}, -4},
		{[]int{math.MinInt}, -most}, {[]int{math.MaxInt}, most},
		{[]int{most, 1, -1}, most - 1}, {[]int{most, -1, 1}, most}, {[]int{1, -1, most}, most},
		{[]int{-most, -5, 7}, -most + 7}, {[]int{most, most, -most}, 0},
		{[]int{math.MaxInt, math.MinInt}, 0}, {[]int{math.MinInt, math.MinInt, math.MaxInt, 3}, 3},
		{[]int{most + 10, -10}, most - 10}, {[]int{1 << 62, 1 << 62, 1 << 62}, most},
	} {
		kept := slices.Clone(c.l)
		if got := fix.Add(c.l...); got != c.want {
			t.Errorf("Add(%d): %d, want %d", c.l, got, c.want)
		}
		if !slices.Equal(kept, c.l) {
			t.Errorf("Add(%d) wrote into its list: %d", kept, c.l)
		}
	}
}

// A2: a long list goes to the end and stays there.
func TestAddMany(t *testing.T) {
	l := slices.Repeat([]int{math.MaxInt}, 1000)
	if got := fix.Add(l...); got != api.Most {
		t.Errorf("Add of many: %d", got)
	}
	ones := slices.Repeat([]int{1}, 1000)
	if got := fix.Add(ones...); got != 1000 {
		t.Errorf("Add of a thousand ones: %d", got)
	}
}

// A1, A2: Sub, and Add of two, against numbers without ends.
func TestSumsOfTwo(t *testing.T) {
	for _, a := range edges() {
		for _, b := range edges() {
			x, y := bigOf(a), bigOf(b)
			if got, want := fix.Sub(a, b), int(clipBig(new(big.Int).Sub(x, y)).Int64()); got != want {
				t.Errorf("Sub(%d, %d): %d, want %d", a, b, got, want)
			}
			if got, want := fix.Add(a, b), int(clipBig(new(big.Int).Add(x, y)).Int64()); got != want {
				t.Errorf("Add(%d, %d): %d, want %d", a, b, got, want)
			}
		}
	}
}

// A1, A2: Mul and Div against numbers without ends.
func TestProducts(t *testing.T) {
	one := big.NewInt(256)
	for _, a := range edges() {
		for _, b := range edges() {
			x, y := bigOf(a), bigOf(b)
			if got, want := fix.Mul(a, b), nearestBig(new(big.Int).Mul(x, y), one); got != want {
				t.Errorf("Mul(%d, %d): %d, want %d", a, b, got, want)
			}
			if b == 0 {
				continue
			}
			want := nearestBig(new(big.Int).Mul(one, x), y)
			if got, err := fix.Div(a, b); got != want || err != nil {
				t.Errorf("Div(%d, %d): %d, %v, want %d", a, b, got, err, want)
			}
		}
	}
}

// A2: of two as near the one further from 0, told by hand.
func TestNearest(t *testing.T) {
	for _, c := range []struct{ a, b, want int }{
		{384, -128, -192}, {1, 128, 1}, {-1, 128, -1}, {1, -128, -1}, {-1, -128, 1},
		{1, 127, 0}, {-1, 127, 0}, {1, 129, 1}, {-1, 129, -1}, {3, 128, 2}, {-3, 128, -2}, {0, -128, 0},
		{256, 256, 256}, {2147483647, 256, 2147483647}, {2147483647, 257, 2147483647}, {-2147483647, 257, -2147483647},
	} {
		if got := fix.Mul(c.a, c.b); got != c.want {
			t.Errorf("Mul(%d, %d): %d, want %d", c.a, c.b, got, c.want)
		}
	}
	for _, c := range []struct{ a, b, want int }{
		{256, 768, 85}, {1, 512, 1}, {-1, 512, -1}, {1, -512, -1}, {-1, -512, 1}, {1, 513, 0}, {-1, 513, 0}, {1, 511, 1},
		{3, 512, 2}, {-3, 512, -2}, {2, 768, 1}, {1, 768, 0}, {1, -768, 0}, {0, -5, 0}, {256, 256, 256},
		{2147483647, 255, 2147483647}, {-2147483647, 1, -2147483647}, {1, 2147483647, 0}, {math.MinInt, math.MaxInt, -256},
	} {
		if got, err := fix.Div(c.a, c.b); got != c.want || err != nil {
			t.Errorf("Div(%d, %d): %d, %v, want %d", c.a, c.b, got, err, c.want)
		}
	}
}

// A2: by nought.
func TestDivByNought(t *testing.T) {
	for _, a := range edges() {
		if got, err := fix.Div(a, 0); got != 0 || err != error(api.ErrZero) {
			t.Errorf("Div(%d, 0): %d, %v", a, got, err)
		}
	}
}

// A2: Root's own square isn't above 256 times a, and the next one's is.
func TestRoot(t *testing.T) {
	check := func(a int) {
		got, err := fix.Root(a)
		if err != nil || got < 0 {
			t.Errorf("Root(%d): %d, %v", a, got, err)
			return
		}
		if n := 256 * min(a, 2147483647); got*got > n || (got+1)*(got+1) <= n {
			t.Errorf("Root(%d): %d", a, got)
		}
	}
	for a := range 5000 {
		check(a)
	}
	for r := 1; r < 2896; r += 7 {
		check(r*r - 1)
		check(r * r)
		check(r*r + 1)
	}
	for _, a := range edges() {
		if a >= 0 {
			check(a)
		}
	}
	for _, c := range []struct{ a, want int }{{0, 0}, {1, 16}, {512, 362}, {256, 256}, {2147483647, 741455}, {math.MaxInt, 741455}} {
		if got, err := fix.Root(c.a); got != c.want || err != nil {
			t.Errorf("Root(%d): %d, %v, want %d", c.a, got, err, c.want)
		}
	}
}

// A2: there is no root of what is below 0.
func TestRootBelowNought(t *testing.T) {
	for _, a := range []int{-1, -2, -256, -2147483647, -2147483648, math.MinInt} {
		if got, err := fix.Root(a); got != 0 || err != error(api.ErrRange) {
			t.Errorf("Root(%d): %d, %v", a, got, err)
		}
	}
}
