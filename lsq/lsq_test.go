package lsq_test

import (
	"math"
	"math/big"
	"math/rand"
	"slices"
	"testing"

	"scorebook/api"
	"scorebook/lsq"
)

const (
	least = math.MinInt64
	most  = math.MaxInt64
	entry = lsq.MaxEntry
)

// results counts how often each error occurs, so that a test knows that it meets them all.
type results map[api.Errno]int

func (met results) need(t *testing.T, l ...api.Errno) {
	t.Helper()
	for _, e := range l {
		if met[e] == 0 {
			t.Errorf("no case has the error %d", e)
		}
	}
}

// number returns a coefficient: small, random, or one of the greatest.
func number(source *rand.Rand) int64 {
	switch source.Intn(3) {
	case 0:
		return source.Int63n(5) - 2
	case 1:
		return source.Int63n(2*entry+1) - entry
	}
	return []int64{-entry, -entry + 1, 0, entry - 1, entry}[source.Intn(5)]
}

func numbers(source *rand.Rand, n int) []int64 {
	out := make([]int64, n)
	for i := range out {
		out[i] = number(source)
	}
	return out
}

func matrix(source *rand.Rand, n int) [][]int64 {
	out := make([][]int64, n)
	for i := range out {
		out[i] = numbers(source, n)
	}
	return out
}

// determinant returns the determinant as the sum over the orders of the columns.
func determinant(a [][]int64) *big.Int {
	orders := map[int][][]int{1: {{0}}, 2: {{0, 1}, {1, 0}}, 3: {{0, 1, 2}, {0, 2, 1}, {1, 0, 2}, {1, 2, 0}, {2, 0, 1}, {2, 1, 0}}}
	total := new(big.Int)
	for _, order := range orders[len(a)] {
		product := big.NewInt(1)
		for row, column := range order {
			product.Mul(product, big.NewInt(a[row][column]))
			for _, before := range order[:row] {
				if before > column {
					product.Neg(product)
				}
			}
		}
		total.Add(total, product)
	}
	return total
}

// P30.1

func TestDet(t *testing.T) {
	source := rand.New(rand.NewSource(30))
	for range 20_000 {
		a := matrix(source, 1+source.Intn(3))
		if d, e := lsq.Det(a); e != api.OK || big.NewInt(d).Cmp(determinant(a)) != 0 {
			t.Fatalf("Det of %v = %d, %d; want %v", a, d, e, determinant(a))
		}
	}
}

func TestDetTells(t *testing.T) {
	const m = entry
	for _, x := range []struct {
		a    [][]int64
		want int64
		e    api.Errno
	}{
		{[][]int64{{7}}, 7, api.OK},
		{[][]int64{{0}}, 0, api.OK},
		{[][]int64{{-m}}, -m, api.OK},
		{[][]int64{{2, 1}, {1, 3}}, 5, api.OK},
		{[][]int64{{0, 1}, {1, 0}}, -1, api.OK},
		{[][]int64{{m, -m}, {m, m}}, 2 * m * m, api.OK},
		{[][]int64{{1, 2, 3}, {0, 1, 4}, {5, 6, 0}}, 1, api.OK},
		{[][]int64{{0, 0, 1}, {0, 1, 0}, {1, 0, 0}}, -1, api.OK},
		{[][]int64{{0, 0, 1}, {1, 0, 0}, {0, 1, 0}}, 1, api.OK},
		{[][]int64{{m, m, -m}, {-m, m, m}, {m, -m, m}}, 4 * m * m * m, api.OK},
		{[][]int64{{1, 2}, {2, 4}}, 0, api.OK},
		{nil, 0, api.ErrArg},
		{[][]int64{{}}, 0, api.ErrArg},
		{[][]int64{nil, nil}, 0, api.ErrArg},
		{[][]int64{{1, 2}}, 0, api.ErrArg},
		{[][]int64{{1}, {2}}, 0, api.ErrArg},
		{[][]int64{{1, 2}, {3}}, 0, api.ErrArg},
		{[][]int64{{1, 2}, {3, 4, 5}}, 0, api.ErrArg},
		{[][]int64{{1, 2}, {3, 4}, {5, 6}}, 0, api.ErrArg},
		{[][]int64{{1, 2, 3}, {4, 5, 6}}, 0, api.ErrArg},
		{[][]int64{{1, 0, 0}, {0, 1, 0}, {0, 0}}, 0, api.ErrArg},
		{[][]int64{{1, 0, 0, 0}, {0, 1, 0, 0}, {0, 0, 1, 0}, {0, 0, 0, 1}}, 0, api.ErrArg},
		{make([][]int64, 5), 0, api.ErrArg},
		{[][]int64{{m + 1, 0}, {0}}, 0, api.ErrArg},
		{[][]int64{{m + 1}}, 0, api.ErrRange},
		{[][]int64{{-m - 1}}, 0, api.ErrRange},
		{[][]int64{{0, 0}, {0, m + 1}}, 0, api.ErrRange},
		{[][]int64{{0, least}, {0, 0}}, 0, api.ErrRange},
		{[][]int64{{0, 0, 0}, {0, 0, 0}, {most, 0, 0}}, 0, api.ErrRange},
	} {
		if d, e := lsq.Det(x.a); d != x.want || e != x.e {
			t.Errorf("Det of %v = %d, %d; want %d, %d", x.a, d, e, x.want, x.e)
		}
	}
}

// P30.2

func TestSolve(t *testing.T) {
	source := rand.New(rand.NewSource(31))
	met := results{}
	for range 20_000 {
		n := 1 + source.Intn(3)
		a, b := matrix(source, n), numbers(source, n)
		x, d, e := lsq.Solve(a, b)
		met[e]++
		want := determinant(a)
		if want.Sign() == 0 {
			if len(x) != 0 || d != 0 || e != api.ErrSingular {
				t.Fatalf("Solve of %v = %v, %d, %d", a, x, d, e)
			}
			continue
		}
		if e != api.OK || big.NewInt(d).Cmp(want) != 0 || len(x) != n {
			t.Fatalf("Solve of %v, %v = %v, %d, %d", a, b, x, d, e)
		}
		for i, row := range a {
			// The row times the numerators is the determinant times the right side.
			left, right := new(big.Int), new(big.Int).Mul(big.NewInt(b[i]), want)
			for j := range row {
				left.Add(left, new(big.Int).Mul(big.NewInt(row[j]), big.NewInt(x[j])))
			}
			if left.Cmp(right) != 0 {
				t.Fatalf("Solve of %v, %v = %v, %d: row %d does not hold", a, b, x, d, i)
			}
		}
	}
	met.need(t, api.OK, api.ErrSingular)
}

func TestSolveTells(t *testing.T) {
	const m = entry
	for _, x := range []struct {
		a    [][]int64
		b    []int64
		want []int64
		d    int64
		e    api.Errno
	}{
		{[][]int64{{2, 1}, {1, 3}}, []int64{5, 10}, []int64{5, 15}, 5, api.OK},
		{[][]int64{{-4}}, []int64{6}, []int64{6}, -4, api.OK},
		{[][]int64{{4}}, []int64{8}, []int64{8}, 4, api.OK}, // not reduced
		{[][]int64{{0, 1}, {1, 0}}, []int64{3, 4}, []int64{-4, -3}, -1, api.OK},
		{[][]int64{{1, 0, 0}, {0, 1, 0}, {0, 0, 1}}, []int64{m, -m, 0}, []int64{m, -m, 0}, 1, api.OK},
		{[][]int64{{1, 2}, {2, 4}}, []int64{1, 2}, nil, 0, api.ErrSingular},
		{[][]int64{{0}}, []int64{0}, nil, 0, api.ErrSingular},
		{nil, nil, nil, 0, api.ErrArg},
		{[][]int64{{1, 2}}, []int64{1}, nil, 0, api.ErrArg},
		{[][]int64{{1}}, nil, nil, 0, api.ErrArg},
		{[][]int64{{1}}, []int64{1, 2}, nil, 0, api.ErrArg},
		{[][]int64{{0}}, []int64{m + 1, 0}, nil, 0, api.ErrArg},
		{[][]int64{{m + 1}}, nil, nil, 0, api.ErrRange},
		{[][]int64{{1}}, []int64{m + 1}, nil, 0, api.ErrRange},
		{[][]int64{{1}}, []int64{-m - 1}, nil, 0, api.ErrRange},
		{[][]int64{{0, 0}, {0, 0}}, []int64{0, least}, nil, 0, api.ErrRange},
		{[][]int64{{0, 0}, {0, 0}}, []int64{0, 0, 0}, nil, 0, api.ErrArg},
	} {
		got, d, e := lsq.Solve(x.a, x.b)
		if !slices.Equal(got, x.want) || d != x.d || e != x.e {
			t.Errorf("Solve of %v, %v = %v, %d, %d; want %v, %d, %d", x.a, x.b, got, d, e, x.want, x.d, x.e)
		}
	}
}

func TestSolveMemory(t *testing.T) {
	backing := []int64{2, 1, 77, 1, 3, 77, 5, 10, 77}
	a := [][]int64{backing[0:2], backing[3:5]}
	b := backing[6:8]
	x, _, _ := lsq.Solve(a, b)
	for i := range x {
		x[i] = -1
	}
	if want := []int64{2, 1, 77, 1, 3, 77, 5, 10, 77}; !slices.Equal(backing, want) {
		t.Errorf("the arguments are %v", backing)
	}
	if y, d, e := lsq.Solve(a, b); !slices.Equal(y, []int64{5, 15}) || d != 5 || e != api.OK {
		t.Errorf("the second solution is %v, %d, %d", y, d, e)
	}
}
