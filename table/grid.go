package table

import "fulmar/api"

// Grid: heights over two numbers: Z[i][j] at X[i], Y[j].
type Grid struct {
	X, Y []int
	Z    [][]int
}

// CheckGrid checks a grid.
func CheckGrid(g Grid) error {
	if err := checkPlaces(g.X); err != nil {
		return err
	}
	if err := checkPlaces(g.Y); err != nil {
		return err
	}
	if len(g.Z) != len(g.X) {
		return api.ErrForm
	}
	for _, row := range g.Z {
		if err := checkRow(row, len(g.Y)); err != nil {
			return err
		}
	}
	return nil
}

// Height over x and y.
func Height(g Grid, x, y int) (int, error) {
	if err := CheckGrid(g); err != nil {
		return 0, err
	}
	i, pastX, leftX := stand(g.X, x)
	j, pastY, leftY := stand(g.Y, y)
	// No sum goes over an int's end: the pieces make up the field, at most 4 * MaxWorth^2, so that all of it is below 2^62.
	sum := g.Z[i][j]*leftX*leftY + g.Z[i][j+1]*leftX*pastY +
		g.Z[i+1][j]*pastX*leftY + g.Z[i+1][j+1]*pastX*pastY
	return nearest(sum, (pastX+leftX)*(pastY+leftY)), nil
}

func checkRow(row []int, long int) error {
	if len(row) != long {
		return api.ErrForm
	}
	return checkWorths(row)
}
