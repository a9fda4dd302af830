package conv_test

import (
	"fmt"
	"math"
	"math/big"
	"testing"

	"truffle/api"
	"truffle/conv"
)

// kindsThatCount are those of P2.1 and P2.2, in their order.
var kindsThatCount = []int{api.Int, api.Sint, api.Uint, api.Flag, api.Fix4, api.Fix8, api.Enum}

// otherKinds are some that do not count, or are none.
var otherKinds = []int{
	math.MinInt, -1 << 32, -8, -7, -2, -1,
	api.Text, api.Raw, api.Sub, api.Kinds, 11, 16, 255, 256, 1 << 32, 1<<32 + api.Enum, math.MaxInt,
}

// raws are numbers at and about each power of 2, and some whose bits are mixed.
func raws() []uint64 {
	l := []uint64{0, 300, 0x0123456789abcdef, 0xfedcba9876543210, 0xaaaaaaaaaaaaaaaa, math.MaxUint64}
	for i := range 64 {
		p := uint64(1) << i
		l = append(l, p-2, p-1, p, p+1, p+2, -p-2, -p-1, -p, -p+1, -p+2)
	}
	return l
}

// numbers are the same, with signs.
func numbers() []int64 {
	var l []int64
	for _, raw := range raws() {
		l = append(l, int64(raw))
	}
	return l
}

func power(bits uint) *big.Int { return new(big.Int).Lsh(big.NewInt(1), bits) }

// within is n modulo 2^bits, from -2^(bits-1) on if it has a sign, else from 0 on.
func within(n *big.Int, bits uint, sign bool) *big.Int {
	m := new(big.Int).Mod(n, power(bits))
	if sign && m.Cmp(power(bits-1)) >= 0 {
		m.Sub(m, power(bits))
	}
	return m
}

// wantOf is what P2.2 asks of a kind that counts, worked out by numbers without bound.
func wantOf(kind int, raw uint64) *big.Int {
	n := new(big.Int).SetUint64(raw)
	switch kind {
	case api.Int, api.Fix8:
		return within(n, 64, true)
	case api.Uint, api.Fix4:
		return within(n, 32, false)
	case api.Enum:
		return within(n, 32, true)
	case api.Flag:
		return big.NewInt(int64(n.Sign()))
	}
	if raw%2 == 0 {
		return n.Div(n, big.NewInt(2))
	}
	n.Add(n, big.NewInt(1))
	return n.Neg(n.Div(n, big.NewInt(2)))
}

// wantFits is what P2.1 asks of a kind that counts.
func wantFits(kind int, n int64) bool {
	switch kind {
	case api.Uint, api.Fix4:
		return n >= 0 && n < 4294967296
	case api.Flag:
		return n >= 0 && n < 2
	case api.Enum:
		return n >= -2147483648 && n < 2147483648
	}
	return true
}

// wantBits is what P2.3 asks of what fits, worked out by numbers without bound.
func wantBits(kind int, n int64) *big.Int {
	b := big.NewInt(n)
	if kind != api.Sint {
		return within(b, 64, false)
	}
	twice := new(big.Int).Mul(b.Abs(b), big.NewInt(2))
	if n < 0 {
		twice.Sub(twice, big.NewInt(1))
	}
	return twice
}

// P2.1: Wire of every kind, and of what is none.
func TestWire(t *testing.T) {
	for _, c := range []struct{ kind, wire int }{
		{api.Int, 0}, {api.Sint, 0}, {api.Uint, 0}, {api.Flag, 0}, {api.Enum, 0},
		{api.Fix8, 1}, {api.Fix4, 5},
		{api.Text, 2}, {api.Raw, 2}, {api.Sub, 2},
		{-1, -1}, {-2, -1}, {-7, -1}, {math.MinInt, -1}, {-1 << 32, -1},
		{10, -1}, {11, -1}, {256, -1}, {1 << 32, -1}, {1<<32 + 7, -1}, {math.MaxInt, -1},
	} {
		if wire := conv.Wire(c.kind); wire != c.wire {
			t.Errorf("Wire(%d) is %d, not %d", c.kind, wire, c.wire)
		}
	}
}

// P2.1: Fits at both edges of each kind.
func TestFitsAtEdges(t *testing.T) {
	for _, c := range []struct {
		name string
		kind int
		n    int64
		is   bool
	}{
		{"int, the least", api.Int, math.MinInt64, true},
		{"int, the greatest", api.Int, math.MaxInt64, true},
		{"sint, the least", api.Sint, math.MinInt64, true},
		{"sint, the greatest", api.Sint, math.MaxInt64, true},
		{"fix8, the least", api.Fix8, math.MinInt64, true},
		{"fix8, the greatest", api.Fix8, math.MaxInt64, true},
		{"uint, below", api.Uint, -1, false},
		{"uint, the least", api.Uint, 0, true},
		{"uint, the greatest", api.Uint, 1<<32 - 1, true},
		{"uint, above", api.Uint, 1 << 32, false},
		{"fix4, below", api.Fix4, -1, false},
		{"fix4, the least", api.Fix4, 0, true},
		{"fix4, the greatest", api.Fix4, 1<<32 - 1, true},
		{"fix4, above", api.Fix4, 1 << 32, false},
		{"flag, below", api.Flag, -1, false},
		{"flag, no", api.Flag, 0, true},
		{"flag, yes", api.Flag, 1, true},
		{"flag, above", api.Flag, 2, false},
		{"flag, 0 modulo 2^32", api.Flag, 1 << 32, false},
		{"enum, below", api.Enum, -1<<31 - 1, false},
		{"enum, the least", api.Enum, -1 << 31, true},
		{"enum, the greatest", api.Enum, 1<<31 - 1, true},
		{"enum, above", api.Enum, 1 << 31, false},
		{"enum, 0 modulo 2^32", api.Enum, 1 << 32, false},
	} {
		if is := conv.Fits(c.kind, c.n); is != c.is {
			t.Errorf("%s: %v, not %v", c.name, is, c.is)
		}
	}
}

// P2.1, P2.3: Fits, held against the bounds; what does not fit has no bits.
func TestFitsAndBitsOfManyNumbers(t *testing.T) {
	for _, kind := range kindsThatCount {
		for _, n := range numbers() {
			is := wantFits(kind, n)
			if got := conv.Fits(kind, n); got != is {
				t.Errorf("Fits(%d, %d) is %v", kind, n, got)
			}
			want := new(big.Int)
			if is {
				want = wantBits(kind, n)
			}
			raw, ok := conv.Bits(kind, n)
			if ok != is || new(big.Int).SetUint64(raw).Cmp(want) != 0 {
				t.Errorf("Bits(%d, %d) is %d, %v, not %v, %v", kind, n, raw, ok, want, is)
			}
		}
	}
}

// P2.1 to P2.3: what does not count, or is no kind, has neither a number nor bits.
func TestKindsThatDoNotCount(t *testing.T) {
	for _, kind := range otherKinds {
		for _, n := range numbers() {
			if conv.Fits(kind, n) {
				t.Fatalf("Fits(%d, %d)", kind, n)
			}
			if raw, ok := conv.Bits(kind, n); raw != 0 || ok {
				t.Fatalf("Bits(%d, %d) is %d, %v", kind, n, raw, ok)
			}
			if got, ok := conv.Of(kind, uint64(n)); got != 0 || ok {
				t.Fatalf("Of(%d, %d) is %d, %v", kind, uint64(n), got, ok)
			}
		}
	}
}

// P2.2: Of, by examples, and at the edges of each kind.
func TestOfExamples(t *testing.T) {
	const all = math.MaxUint64
	for _, c := range []struct {
		name string
		kind int
		raw  uint64
		n    int64
	}{
		{"int", api.Int, 300, 300},
		{"int, the greatest", api.Int, 1<<63 - 1, math.MaxInt64},
		{"int, the least", api.Int, 1 << 63, math.MinInt64},
		{"int, below 0", api.Int, all, -1},
		{"fix8", api.Fix8, 300, 300},
		{"fix8, the greatest", api.Fix8, 1<<63 - 1, math.MaxInt64},
		{"fix8, the least", api.Fix8, 1 << 63, math.MinInt64},
		{"fix8, below 0", api.Fix8, all, -1},
		{"sint, none", api.Sint, 0, 0},
		{"sint, odd", api.Sint, 1, -1},
		{"sint, even", api.Sint, 2, 1},
		{"sint, odd, more", api.Sint, 3, -2},
		{"sint, at 2^63", api.Sint, 1 << 63, 1 << 62},
		{"sint, the greatest", api.Sint, all - 1, math.MaxInt64},
		{"sint, the least", api.Sint, all, math.MinInt64},
		{"uint, the greatest", api.Uint, 1<<32 - 1, 1<<32 - 1},
		{"uint, above", api.Uint, 1 << 32, 0},
		{"uint, all bits", api.Uint, all, 1<<32 - 1},
		{"fix4, the greatest", api.Fix4, 1<<32 - 1, 1<<32 - 1},
		{"fix4, above", api.Fix4, 1 << 32, 0},
		{"fix4, all bits", api.Fix4, all, 1<<32 - 1},
		{"flag, no", api.Flag, 0, 0},
		{"flag, yes", api.Flag, 1, 1},
		{"flag, more", api.Flag, 2, 1},
		{"flag, 0 modulo 2^32", api.Flag, 1 << 32, 1},
		{"flag, the highest bit", api.Flag, 1 << 63, 1},
		{"flag, all bits", api.Flag, all, 1},
		{"enum, the greatest", api.Enum, 1<<31 - 1, 1<<31 - 1},
		{"enum, the least", api.Enum, 1 << 31, -1 << 31},
		{"enum, 2^32 - 1", api.Enum, 1<<32 - 1, -1},
		{"enum, above", api.Enum, 1<<32 + 3, 3},
		{"enum, the highest bit", api.Enum, 1 << 63, 0},
		{"enum, all bits", api.Enum, all, -1},
	} {
		if n, ok := conv.Of(c.kind, c.raw); n != c.n || !ok {
			t.Errorf("%s: %d, %v, not %d", c.name, n, ok, c.n)
		}
	}
}

// P2.2: Of, held against numbers without bound. P2.4: what it tells fits.
func TestOfManyNumbers(t *testing.T) {
	for _, kind := range kindsThatCount {
		for _, raw := range raws() {
			n, ok := conv.Of(kind, raw)
			if want := wantOf(kind, raw); !ok || big.NewInt(n).Cmp(want) != 0 {
				t.Errorf("Of(%d, %d) is %d, %v, not %v", kind, raw, n, ok, want)
			}
			if !conv.Fits(kind, n) {
				t.Errorf("Of(%d, %d) is %d, which does not fit", kind, raw, n)
			}
		}
	}
}

// P2.3: Bits, by examples, and at the edges of each kind.
func TestBitsExamples(t *testing.T) {
	const all = math.MaxUint64
	for _, c := range []struct {
		name string
		kind int
		n    int64
		raw  uint64
		ok   bool
	}{
		{"int", api.Int, 300, 300, true},
		{"int, below 0", api.Int, -2, all - 1, true},
		{"int, the least", api.Int, math.MinInt64, 1 << 63, true},
		{"fix8, below 0", api.Fix8, -1, all, true},
		{"sint, none", api.Sint, 0, 0, true},
		{"sint, below 0", api.Sint, -1, 1, true},
		{"sint, above 0", api.Sint, 1, 2, true},
		{"sint, further below", api.Sint, -3, 5, true},
		{"sint, the greatest", api.Sint, math.MaxInt64, all - 1, true},
		{"sint, the least", api.Sint, math.MinInt64, all, true},
		{"uint, the greatest", api.Uint, 1<<32 - 1, 1<<32 - 1, true},
		{"uint, above", api.Uint, 1 << 32, 0, false},
		{"uint, below 0", api.Uint, -1, 0, false},
		{"fix4, the greatest", api.Fix4, 1<<32 - 1, 1<<32 - 1, true},
		{"fix4, above", api.Fix4, 1 << 32, 0, false},
		{"fix4, below 0", api.Fix4, -1, 0, false},
		{"flag, yes", api.Flag, 1, 1, true},
		{"flag, more", api.Flag, 2, 0, false},
		{"flag, below 0", api.Flag, -1, 0, false},
		{"enum, below 0, of all 64 bits", api.Enum, -1, all, true},
		{"enum, the least", api.Enum, -1 << 31, all - 1<<31 + 1, true},
		{"enum, the greatest", api.Enum, 1<<31 - 1, 1<<31 - 1, true},
		{"enum, above", api.Enum, 1 << 31, 0, false},
		{"enum, below the least", api.Enum, -1<<31 - 1, 0, false},
		{"text", api.Text, 0, 0, false},
		{"no kind", -1, 1, 0, false},
	} {
		if raw, ok := conv.Bits(c.kind, c.n); raw != c.raw || ok != c.ok {
			t.Errorf("%s: %d, %v, not %d, %v", c.name, raw, ok, c.raw, c.ok)
		}
	}
}

// P2.4: what fits comes back.
func TestWhatFitsComesBack(t *testing.T) {
	for _, kind := range kindsThatCount {
		for _, n := range numbers() {
			if !wantFits(kind, n) {
				continue
			}
			raw, _ := conv.Bits(kind, n)
			if back, ok := conv.Of(kind, raw); back != n || !ok {
				t.Errorf("%d of kind %d comes back as %d, %v", n, kind, back, ok)
			}
		}
	}
}

func ExampleOf() {
	fmt.Println(conv.Of(api.Sint, 3))
	fmt.Println(conv.Of(api.Enum, 1<<32-1))
	fmt.Println(conv.Of(api.Text, 3))
	// Output:
	// -2 true
	// -1 true
	// 0 false
}
