package table_test

import (
	"math"
	"math/big"
	"math/rand"
	"slices"
	"testing"

	"fulmar/api"
	"fulmar/table"
)

// flat grid over places, all of it 0.
func flat(x, y []int) table.Grid {
	g := table.Grid{X: x, Y: y}
	for range x {
		g.Z = append(g.Z, make([]int, len(y)))
	}
	return g
}

// grids may be; of many shapes.
func grids() []table.Grid {
	all := []int{-worth, worth}
	l := []table.Grid{
		{X: []int{0, 2}, Y: []int{0, 2}, Z: [][]int{{0, 0}, {0, 1}}},
		{X: []int{0, 2}, Y: []int{0, 2}, Z: [][]int{{0, 0}, {0, -1}}},
		{X: []int{0, 10}, Y: []int{0, 5, 7}, Z: [][]int{{1, 20, -300}, {-4000, 5, 60}}},
		{X: all, Y: all, Z: [][]int{{worth, -worth}, {worth, worth}}},
		{X: all, Y: all, Z: [][]int{{worth, worth}, {worth, worth}}},
		{X: all, Y: all, Z: [][]int{{-worth, -worth}, {-worth, -worth}}},
		{X: all, Y: all, Z: [][]int{{-worth, worth}, {worth, -worth}}},
	}
	r := rand.New(rand.NewSource(3))
	for range 30 {
		g := flat(somePlaces(r), somePlaces(r))
		for _, row := range g.Z {
			for j := range row {
				row[j] = r.Intn(81) - 40
			}
		}
		l = append(l, g)
	}
	return l
}

func somePlaces(r *rand.Rand) []int {
	var l []int
	x := r.Intn(20) - 20
	for range 2 + r.Intn(7) {
		l = append(l, x)
		x += 1 + r.Intn(6)
	}
	return l
}

// between two places: which is the first, and what part of the way to the next one x, clipped, has gone.
func between(at []int, x int) (int, *big.Rat) {
	x = min(max(x, at[0]), at[len(at)-1])
	i := 0
	for at[i+1] < x {
		i++
	}
	return i, big.NewRat(int64(x-at[i]), int64(at[i+1]-at[i]))
}

// blend goes from a to b by a part.
func blend(a, b, part *big.Rat) *big.Rat {
	d := new(big.Rat).Sub(b, a)
	return d.Add(a, d.Mul(d, part))
}

// heightOver works with fractions, straight along Y on both sides, then straight along X between them: a way of its own.
func heightOver(g table.Grid, x, y int) int {
	i, p := between(g.X, x)
	j, q := between(g.Y, y)
	z := func(i, j int) *big.Rat { return big.NewRat(int64(g.Z[i][j]), 1) }
	return floorHalf(blend(blend(z(i, j), z(i, j+1), q), blend(z(i+1, j), z(i+1, j+1), q), p))
}

func checkHeight(t *testing.T, g table.Grid, x, y int) {
	t.Helper()
	if got, err := table.Height(g, x, y); got != heightOver(g, x, y) || err != nil {
		t.Errorf("Height(%v, %d, %d): %d, %v, want %d", g, x, y, got, err, heightOver(g, x, y))
	}
}

// checkGrid: what is told of a grid by CheckGrid, and with it by Height.
func checkGrid(t *testing.T, g table.Grid, want error) {
	t.Helper()
	if err := table.CheckGrid(g); err != want {
		t.Errorf("CheckGrid(%v): %v, want %v", g, err, want)
	}
	if want == nil {
		return
	}
	for _, x := range []int{1, math.MinInt, math.MaxInt} {
		if z, err := table.Height(g, x, -x); z != 0 || err != want {
			t.Errorf("Height(%v, %d, %d): %d, %v, want %v", g, x, -x, z, err, want)
		}
	}
}

// B3: X, then Y, as places, ahead of Z.
func TestGridPlaces(t *testing.T) {
	for _, x := range rightPlaces() {
		for _, y := range rightPlaces() {
			checkGrid(t, flat(x, y), nil)
		}
	}
	for want, all := range wrongPlaces() {
		for _, w := range all {
			for _, r := range rightPlaces() {
				checkGrid(t, flat(w, r), want)
				checkGrid(t, flat(r, w), want)
				checkGrid(t, table.Grid{X: w, Y: r}, want)
				checkGrid(t, table.Grid{X: r, Y: w}, want)
			}
			for _, other := range wrongPlaces() {
				checkGrid(t, flat(w, other[0]), want)
			}
		}
	}
}

// B3: Z, row by row.
func TestGridRows(t *testing.T) {
	x, y := []int{0, 1, 2}, []int{0, 1}
	for _, c := range []struct {
		z    [][]int
		want error
	}{
		{[][]int{{0, 0}, {-worth, worth}, {worth, -worth}}, nil},
		{nil, api.ErrForm},
		{[][]int{{0, 0}, {0, 0}}, api.ErrForm},
		{[][]int{{0, 0}, {0, 0}, {0, 0}, {0, 0}}, api.ErrForm},
		{[][]int{{0, 0, 0}, {0, 0, 0}}, api.ErrForm},
		{[][]int{{worth + 1, 0}, {0, 0}}, api.ErrForm},
		{[][]int{{0}, {0, 0}, {0, 0}}, api.ErrForm},
		{[][]int{{0, 0}, nil, {0, 0}}, api.ErrForm},
		{[][]int{{0, 0}, {0, 0}, {0, 0, 0}}, api.ErrForm},
		{[][]int{{worth + 1}, {0, 0}, {0, 0}}, api.ErrForm},
		{[][]int{{worth + 1, 0}, {0}, {0, 0}}, api.ErrRange},
		{[][]int{{0, -worth - 1}, {0, 0}, {0}}, api.ErrRange},
		{[][]int{{0}, {worth + 1, 0}, {0, 0}}, api.ErrForm},
		{[][]int{{0, 0}, {math.MinInt, 0}, {0, 0}}, api.ErrRange},
		{[][]int{{0, 0}, {0, 0}, {0, math.MaxInt}}, api.ErrRange},
		{[][]int{{0, 0}, {0, worth + 1}, {0, 0}}, api.ErrRange},
		{[][]int{{-worth - 1, 0}, {0, 0}, {0, 0}}, api.ErrRange},
	} {
		checkGrid(t, table.Grid{X: x, Y: y, Z: c.z}, c.want)
	}
	checkGrid(t, table.Grid{}, api.ErrForm)
}

// B3: Height told by hand: halves go up, and X and Y aren't taken one for the other.
func TestHeightByHand(t *testing.T) {
	up := table.Grid{X: []int{0, 2}, Y: []int{0, 2}, Z: [][]int{{0, 1}, {0, 1}}}
	down := table.Grid{X: []int{0, 2}, Y: []int{0, 2}, Z: [][]int{{0, -1}, {0, -1}}}
	odd := table.Grid{X: []int{0, 10}, Y: []int{0, 5, 7}, Z: [][]int{{1, 20, -300}, {-4000, 5, 60}}}
	for _, c := range []struct {
		g          table.Grid
		x, y, want int
	}{
		{up, 0, 1, 1}, {up, 1, 1, 1}, {down, 0, 1, 0}, {down, 1, 1, 0}, {up, 1, 0, 0},
		{odd, 0, 0, 1}, {odd, 0, 5, 20}, {odd, 0, 7, -300}, {odd, 10, 0, -4000}, {odd, 10, 5, 5}, {odd, 10, 7, 60},
		{odd, 5, 0, -1999}, {odd, 0, 6, -140}, {odd, 10, 6, 33}, {odd, 5, 6, -54}, {odd, 1, 1, -316},
		{odd, math.MinInt, math.MinInt, 1}, {odd, math.MinInt, math.MaxInt, -300},
		{odd, math.MaxInt, math.MinInt, -4000}, {odd, math.MaxInt, math.MaxInt, 60}, {odd, -1, 6, -140}, {odd, 11, 6, 33}, {odd, 5, -1, -1999},
	} {
		if got, err := table.Height(c.g, c.x, c.y); got != c.want || err != nil {
			t.Errorf("Height(%v, %d, %d): %d, %v, want %d", c.g, c.x, c.y, got, err, c.want)
		}
	}
}

// B3: Height against fractions.
func TestHeight(t *testing.T) {
	far := []int{math.MinInt, -worth - 1, -worth, -999999, -333333, -1, 0, 1, 499999, 999999, worth, worth + 1, math.MaxInt}
	for _, g := range grids() {
		for x := -24; x <= 34; x += 2 {
			for y := -23; y <= 34; y += 3 {
				checkHeight(t, g, x, y)
				checkHeight(t, g, x+1, y-1)
			}
		}
		for _, x := range far {
			for _, y := range far {
				checkHeight(t, g, x, y)
			}
		}
		for i, x := range g.X {
			for j, y := range g.Y {
				if got, err := table.Height(g, x, y); got != g.Z[i][j] || err != nil {
					t.Errorf("Height(%v, %d, %d): %d, %v, want %d", g, x, y, got, err, g.Z[i][j])
				}
			}
		}
	}
}

// Z2: no list of a grid is written into.
func TestGridStays(t *testing.T) {
	for _, g := range grids() {
		x, y := slices.Clone(g.X), slices.Clone(g.Y)
		var z [][]int
		for _, row := range g.Z {
			z = append(z, slices.Clone(row))
		}
		checkHeight(t, g, 3, -5)
		checkGrid(t, g, nil)
		if !slices.Equal(x, g.X) || !slices.Equal(y, g.Y) || !slices.EqualFunc(z, g.Z, slices.Equal) {
			t.Errorf("a list was written into: %v %v %v: %v", x, y, z, g)
		}
	}
}
