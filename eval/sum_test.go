package eval_test

import (
	"math"
	"math/rand/v2"
	"slices"
	"testing"

	"truffle/eval"
)

const (
	least    = math.MinInt64
	greatest = math.MaxInt64
)

// holdSum holds what Sum tells against the words, and that the list stays as it was.
func holdSum(t *testing.T, l []int64) {
	t.Helper()
	was := slices.Clone(l)
	want, wantOK := wantSum(l)
	for range 2 {
		if n, ok := eval.Sum(l); n != want || ok != wantOK {
			t.Fatalf("Sum(%v) is %d, %t, not %d, %t", l[:min(len(l), 20)], n, ok, want, wantOK)
		}
	}
	if !slices.Equal(l, was) {
		t.Fatalf("%v became %v", was, l)
	}
}

// P16.1: sums of none, of one, of more, at both ends, and behind them.
func TestSum(t *testing.T) {
	for _, c := range []struct {
		l  []int64
		n  int64
		ok bool
	}{
		{nil, 0, true},
		{[]int64{}, 0, true},
		{[]int64{0}, 0, true},
		{[]int64{-5}, -5, true},
		{[]int64{-5, 3}, -2, true},
		{[]int64{1, 2, 3, 4}, 10, true},
		{[]int64{greatest}, greatest, true},
		{[]int64{least}, least, true},
		{[]int64{greatest, 0}, greatest, true},
		{[]int64{greatest - 1, 1}, greatest, true},
		{[]int64{1 << 62, 1<<62 - 1}, greatest, true},
		{[]int64{greatest, 1}, 0, false},
		{[]int64{1, greatest}, 0, false},
		{[]int64{1 << 62, 1 << 62}, 0, false},
		{[]int64{least + 1, -1}, least, true},
		{[]int64{-1 << 62, -1 << 62}, least, true},
		{[]int64{least, -1}, 0, false},
		{[]int64{-1, least}, 0, false},
		{[]int64{-1 << 62, -1 << 62, -1}, 0, false},
		{[]int64{greatest, least}, -1, true},
		{[]int64{greatest, 1, -1}, greatest, true},
		{[]int64{greatest, greatest, least, least}, -2, true},
		{[]int64{least, -1, 1}, least, true},
		{[]int64{least, least, greatest, greatest}, -2, true},
		{[]int64{greatest, 1, -2}, greatest - 1, true},
		{[]int64{greatest, greatest}, 0, false},
		{[]int64{greatest, greatest, 2}, 0, false},
		{[]int64{greatest, greatest, 3}, 0, false},
		{[]int64{least, least}, 0, false},
		{[]int64{least, least, greatest}, 0, false},
		{[]int64{least, least, greatest, 1}, least, true},
	} {
		if n, ok := eval.Sum(c.l); n != c.n || ok != c.ok {
			t.Errorf("Sum(%v) is %d, %t", c.l, n, ok)
		}
		holdSum(t, c.l)
	}
}

// P16.1: all short lists of numbers at the ends, and in the middle.
func TestAllShortSums(t *testing.T) {
	ends := []int64{0, 1, -1, 2, greatest, greatest - 1, least, least + 1, 1 << 62, -1 << 62, 1 << 32}
	var hold func(l []int64, more int)
	hold = func(l []int64, more int) {
		holdSum(t, l)
		for _, n := range ends[:len(ends)*min(more, 1)] {
			hold(append(slices.Clip(l), n), more-1)
		}
	}
	hold(nil, 4)
}

// P16.1: long lists, what whose first numbers come to is far beyond what is told.
func TestLongSums(t *testing.T) {
	var l []int64
	for range 1 << 17 {
		l = append(l, greatest)
	}
	holdSum(t, l)
	for range 1 << 17 {
		l = append(l, least)
	}
	holdSum(t, l)
	if n, ok := eval.Sum(l); n != -1<<17 || !ok {
		t.Errorf("%d, %t", n, ok)
	}
	slices.Sort(l)
	holdSum(t, l)
	holdSum(t, append(l, greatest, 1<<17))
	holdSum(t, append(l, greatest, 1<<17+1))
	holdSum(t, append(l, least, 1<<17-1))
	holdSum(t, append(l, least, 1<<17))
}

// P16.1: lists made by chance, whose sums are near the ends too.
func TestSumsByChance(t *testing.T) {
	c := rand.New(rand.NewPCG(16, 1))
	told := map[bool]int{}
	for range 20000 {
		var l []int64
		for range c.IntN(8) {
			l = append(l, int64(c.Uint64())>>(c.IntN(64)*c.IntN(2)))
		}
		holdSum(t, l)
		_, ok := wantSum(l)
		told[ok]++
		if ok {
			n, _ := wantSum(l)
			end := []int64{greatest, least}[c.IntN(2)]
			// What is missing to the end may itself be too great for one number.
			l = append(l, end/2-n/2, end/2-n/2)
			for range 4 {
				l = append(l, int64(c.IntN(5)-2))
				holdSum(t, l)
			}
		}
	}
	if told[true] < 5000 || told[false] < 1000 {
		t.Errorf("%v", told)
	}
}

// R3: what stands behind a list stays as it was, and is not added.
func TestSumOfRoomBehind(t *testing.T) {
	l := []int64{1, 2, 3, 4}
	if n, ok := eval.Sum(l[:2]); n != 3 || !ok || !slices.Equal(l, []int64{1, 2, 3, 4}) {
		t.Errorf("%d, %t, %v", n, ok, l)
	}
}
