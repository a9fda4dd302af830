package varint_test

import (
	"bytes"
	"fmt"
	"math"
	"math/big"
	"slices"
	"testing"

	"truffle/api"
	"truffle/varint"
)

// told is what Get and Unfix answer, so that all of it is held against what is asked at once.
type told struct {
	n     uint64
	place int
	err   api.Errno
}

func get(b []byte, at, upto int) told {
	n, place, err := varint.Get(b, at, upto)
	return told{n, place, err}
}

func unfix(b []byte, at, upto, size int) told {
	n, place, err := varint.Unfix(b, at, upto, size)
	return told{n, place, err}
}

// numbers are those at and about each power of 2, and some whose bits are mixed.
func numbers() []uint64 {
	l := []uint64{0, 300, 0x0123456789abcdef, 0xfedcba9876543210, 0xaaaaaaaaaaaaaaaa, math.MaxUint64}
	for i := range 64 {
		p := uint64(1) << i
		l = append(l, p-1, p, p+1)
	}
	return l
}

// sevens are a number's bytes, worked out by division, as P1.1 tells it.
func sevens(n uint64) []byte {
	l := []byte{byte(n % 128)}
	for n /= 128; n > 0; n /= 128 {
		l[len(l)-1] += 128
		l = append(l, byte(n%128))
	}
	return l
}

// places are those that may be of so many bytes, those just beside, and ones far away.
func places(long int) []int {
	l := []int{math.MinInt, -1 << 32, -2}
	for i := range long + 3 {
		l = append(l, i-1)
	}
	return append(l, 1<<32, math.MaxInt-8, math.MaxInt)
}

func may(b []byte, at, upto int) bool {
	return at >= 0 && at <= len(b) && upto >= 0 && upto <= len(b) && at <= upto
}

// wantGet is what P1.2 asks, worked out by numbers without bound.
func wantGet(b []byte, at, upto int) told {
	if !may(b, at, upto) {
		return told{0, 0, api.ErrArg}
	}
	end := slices.IndexFunc(b[at:upto], func(x byte) bool { return x < 128 })
	if (end < 0 || end >= 10) && upto-at >= 10 {
		return told{0, 0, api.ErrVarint}
	}
	if end < 0 {
		return told{0, 0, api.ErrCut}
	}
	sum := new(big.Int)
	for i := end; i >= 0; i-- {
		sum.Mul(sum, big.NewInt(128))
		sum.Add(sum, big.NewInt(int64(b[at+i]%128)))
	}
	sum.Mod(sum, new(big.Int).Lsh(big.NewInt(1), 64))
	return told{sum.Uint64(), at + end + 1, api.OK}
}

// wantUnfix is what P1.3 asks, worked out by numbers without bound.
func wantUnfix(b []byte, at, upto, size int) told {
	if !may(b, at, upto) || size != 4 && size != 8 {
		return told{0, 0, api.ErrArg}
	}
	if upto-at < size {
		return told{0, 0, api.ErrCut}
	}
	l := slices.Clone(b[at : at+size])
	slices.Reverse(l)
	return told{new(big.Int).SetBytes(l).Uint64(), at + size, api.OK}
}

// P1.1: Put, by examples.
func TestPutExamples(t *testing.T) {
	for _, c := range []struct {
		n uint64
		b []byte
	}{
		{0, []byte{0}},
		{1, []byte{1}},
		{127, []byte{127}},
		{128, []byte{128, 1}},
		{300, []byte{172, 2}},
		{16383, []byte{255, 127}},
		{16384, []byte{128, 128, 1}},
		{1<<63 - 1, []byte{255, 255, 255, 255, 255, 255, 255, 255, 127}},
		{1 << 63, []byte{128, 128, 128, 128, 128, 128, 128, 128, 128, 1}},
		{math.MaxUint64, []byte{255, 255, 255, 255, 255, 255, 255, 255, 255, 1}},
	} {
		if b := varint.Put(c.n); !bytes.Equal(b, c.b) {
			t.Errorf("Put(%d) is %v, not %v", c.n, b, c.b)
		}
		if long := varint.Long(c.n); long != len(c.b) {
			t.Errorf("Long(%d) is %d, not %d", c.n, long, len(c.b))
		}
	}
}

// P1.1: Put and Long, held against division.
func TestPutAndLongOfManyNumbers(t *testing.T) {
	for _, n := range numbers() {
		want := sevens(n)
		if b := varint.Put(n); !bytes.Equal(b, want) {
			t.Errorf("Put(%d) is %v, not %v", n, b, want)
		}
		if long := varint.Long(n); long != len(want) {
			t.Errorf("Long(%d) is %d, not %d", n, long, len(want))
		}
	}
}

// P1.2: Get, by examples: ordinary ones, edges, and what is wrong.
func TestGetExamples(t *testing.T) {
	on := func(n int, then ...byte) []byte { return append(bytes.Repeat([]byte{255}, n), then...) }
	for _, c := range []struct {
		name     string
		b        []byte
		at, upto int
		want     told
	}{
		{"one byte", []byte{5}, 0, 1, told{5, 1, api.OK}},
		{"two bytes", []byte{172, 2}, 0, 2, told{300, 2, api.OK}},
		{"from the middle", []byte{255, 172, 2, 255}, 1, 4, told{300, 3, api.OK}},
		{"more bytes than need be", []byte{129, 128, 0}, 0, 3, told{1, 3, api.OK}},
		{"ten bytes", on(9, 1), 0, 10, told{math.MaxUint64, 10, api.OK}},
		{"ten bytes, modulo 2^64", on(9, 2), 0, 10, told{1<<63 - 1, 10, api.OK}},
		{"ten bytes, the greatest last one", on(9, 127), 0, 10, told{math.MaxUint64, 10, api.OK}},
		{"none", nil, 0, 0, told{0, 0, api.ErrCut}},
		{"none at the end", []byte{5}, 1, 1, told{0, 0, api.ErrCut}},
		{"none ahead of upto", []byte{5}, 0, 0, told{0, 0, api.ErrCut}},
		{"cut off", []byte{128}, 0, 1, told{0, 0, api.ErrCut}},
		{"cut off by upto", []byte{128, 1}, 0, 1, told{0, 0, api.ErrCut}},
		{"nine that go on", on(9), 0, 9, told{0, 0, api.ErrCut}},
		{"nine that go on, by upto", on(9, 1), 0, 9, told{0, 0, api.ErrCut}},
		{"ten that go on", on(10), 0, 10, told{0, 0, api.ErrVarint}},
		{"ten that go on, and one behind", on(10, 1), 0, 11, told{0, 0, api.ErrVarint}},
		{"ten that go on from the middle", on(12, 1), 1, 13, told{0, 0, api.ErrVarint}},
		{"at below 0", []byte{1}, -1, 1, told{0, 0, api.ErrArg}},
		{"at above upto", []byte{1}, 1, 0, told{0, 0, api.ErrArg}},
		{"upto above all bytes", []byte{1}, 0, 2, told{0, 0, api.ErrArg}},
		{"upto within the capacity", make([]byte, 1, 4), 0, 2, told{0, 0, api.ErrArg}},
		{"places of no bytes", nil, 0, 1, told{0, 0, api.ErrArg}},
	} {
		if got := get(c.b, c.at, c.upto); got != c.want {
			t.Errorf("%s: %v, not %v", c.name, got, c.want)
		}
	}
}

// P1.2: Get at all places, of bytes of which each one goes on or does not.
func TestGetAtAllPlaces(t *testing.T) {
	for mask := range 1 << 12 {
		b := make([]byte, 12)
		for i := range b {
			b[i] = byte(mask>>i&1)<<7 | byte(37*i+mask)&127
		}
		for _, at := range places(2) {
			for _, upto := range places(len(b)) {
				if got, want := get(b, at, upto), wantGet(b, at, upto); got != want {
					t.Fatalf("Get(%v, %d, %d) is %v, not %v", b, at, upto, got, want)
				}
			}
		}
	}
}

// P1.3: Fix, by examples.
func TestFixExamples(t *testing.T) {
	for _, c := range []struct {
		n    uint64
		size int
		b    []byte
	}{
		{258, 4, []byte{2, 1, 0, 0}},
		{258, 8, []byte{2, 1, 0, 0, 0, 0, 0, 0}},
		{0, 4, []byte{0, 0, 0, 0}},
		{1<<40 + 258, 4, []byte{2, 1, 0, 0}},
		{0x0807060504030201, 4, []byte{1, 2, 3, 4}},
		{0x0807060504030201, 8, []byte{1, 2, 3, 4, 5, 6, 7, 8}},
		{math.MaxUint64, 8, []byte{255, 255, 255, 255, 255, 255, 255, 255}},
	} {
		if b, is := varint.Fix(c.n, c.size); !is || !bytes.Equal(b, c.b) {
			t.Errorf("Fix(%d, %d) is %v, %v, not %v", c.n, c.size, b, is, c.b)
		}
	}
}

// P1.3: there are sizes 4 and 8 alone.
func TestFixOfOtherSizes(t *testing.T) {
	sizes := []int{math.MinInt, -8, -4, -1, 0, 1, 2, 3, 5, 6, 7, 9, 16, 1<<32 + 4, math.MaxInt}
	b := make([]byte, 20)
	for _, size := range sizes {
		if l, is := varint.Fix(258, size); is || len(l) != 0 {
			t.Errorf("Fix to %d: %v, %v", size, l, is)
		}
		if got := unfix(b, 0, len(b), size); got != (told{0, 0, api.ErrArg}) {
			t.Errorf("Unfix of %d: %v", size, got)
		}
	}
}

// P1.3: Unfix, by examples: ordinary ones, edges, and what is wrong.
func TestUnfixExamples(t *testing.T) {
	b := []byte{1, 2, 3, 4, 5, 6, 7, 128, 9}
	for _, c := range []struct {
		name           string
		b              []byte
		at, upto, size int
		want           told
	}{
		{"four", b, 0, 9, 4, told{0x04030201, 4, api.OK}},
		{"eight", b, 0, 9, 8, told{0x8007060504030201, 8, api.OK}},
		{"four from the middle", b, 4, 8, 4, told{0x80070605, 8, api.OK}},
		{"eight up to the end", b, 1, 9, 8, told{0x0980070605040302, 9, api.OK}},
		{"none", nil, 0, 0, 4, told{0, 0, api.ErrCut}},
		{"none at the end", b, 9, 9, 4, told{0, 0, api.ErrCut}},
		{"three of four", b, 6, 9, 4, told{0, 0, api.ErrCut}},
		{"three of four, by upto", b, 0, 3, 4, told{0, 0, api.ErrCut}},
		{"seven of eight", b, 2, 9, 8, told{0, 0, api.ErrCut}},
		{"seven of eight, by upto", b, 0, 7, 8, told{0, 0, api.ErrCut}},
		{"at below 0", b, -1, 9, 4, told{0, 0, api.ErrArg}},
		{"at above upto", b, 5, 4, 4, told{0, 0, api.ErrArg}},
		{"upto above all bytes", b, 0, 10, 4, told{0, 0, api.ErrArg}},
		{"upto within the capacity", make([]byte, 1, 8), 0, 4, 4, told{0, 0, api.ErrArg}},
		{"a size that may not be, ahead of what is cut off", b, 8, 9, 5, told{0, 0, api.ErrArg}},
		{"places that may not be, ahead of what is cut off", b, 8, 10, 4, told{0, 0, api.ErrArg}},
	} {
		if got := unfix(c.b, c.at, c.upto, c.size); got != c.want {
			t.Errorf("%s: %v, not %v", c.name, got, c.want)
		}
	}
}

// P1.3: Unfix at all places, of all sizes about those that there are.
func TestUnfixAtAllPlaces(t *testing.T) {
	b := []byte{7, 255, 128, 1, 0, 254, 3, 127, 200, 11, 90}
	sizes := append(places(10), 1<<32+4, 1<<32+8)
	for _, at := range places(len(b)) {
		for _, upto := range places(len(b)) {
			for _, size := range sizes {
				if got, want := unfix(b, at, upto, size), wantUnfix(b, at, upto, size); got != want {
					t.Fatalf("Unfix(b, %d, %d, %d) is %v, not %v", at, upto, size, got, want)
				}
			}
		}
	}
}

// tails are what may stand behind a number.
func tails() [][]byte {
	return [][]byte{nil, {0}, {1, 2}, {127}, {128}, {255, 255}, bytes.Repeat([]byte{255}, 12)}
}

// P1.4: what is put is got, whatever stands behind, and ahead.
func TestWhatIsPutIsGot(t *testing.T) {
	for _, n := range numbers() {
		for _, head := range tails() {
			for _, tail := range tails() {
				b := slices.Concat(head, varint.Put(n), tail)
				end := len(head) + varint.Long(n)
				if got := get(b, len(head), len(b)); got != (told{n, end, api.OK}) {
					t.Fatalf("%d between %v and %v: %v", n, head, tail, got)
				}
			}
		}
	}
}

// P1.4: what is fixed is unfixed, whatever stands behind, and ahead.
func TestWhatIsFixedIsUnfixed(t *testing.T) {
	for _, n := range numbers() {
		for _, size := range []int{4, 8} {
			want := n
			if size == 4 {
				want = n % (1 << 32)
			}
			for _, tail := range tails() {
				l, is := varint.Fix(n, size)
				b := slices.Concat(tail, l, tail)
				if got := unfix(b, len(tail), len(b), size); !is || got != (told{want, len(tail) + size, api.OK}) {
					t.Fatalf("%d as %d bytes beside %v: %v", n, size, tail, got)
				}
			}
		}
	}
}

// P1.4: a number below 2^(7k) has at most k bytes; P1.1: the first one that is not has more.
func TestHowLongNumbersAre(t *testing.T) {
	for k := 1; k <= 9; k++ {
		first := uint64(1) << (7 * k)
		if n := first - 1; varint.Long(n) != k || len(varint.Put(n)) != k {
			t.Errorf("%d has not %d bytes", n, k)
		}
		if varint.Long(first) != k+1 || len(varint.Put(first)) != k+1 {
			t.Errorf("%d has not %d bytes", first, k+1)
		}
	}
	if long := varint.Long(math.MaxUint64); long != api.MaxVarint {
		t.Errorf("the greatest number has %d bytes", long)
	}
}

// R3: what is handed in stays, and what is answered is the caller's own.
func TestBytesAreTheCallersOwn(t *testing.T) {
	b := []byte{172, 2, 9, 8, 7, 6, 5, 4, 3, 2}
	was := slices.Clone(b)
	get(b, 0, len(b))
	unfix(b, 0, len(b), 8)
	if !bytes.Equal(b, was) {
		t.Errorf("what was handed in is %v", b)
	}
	for _, call := range []func() []byte{
		func() []byte { return varint.Put(5) },
		func() []byte { return varint.Put(300) },
		func() []byte { l, _ := varint.Fix(258, 4); return l },
		func() []byte { l, _ := varint.Fix(258, 8); return l },
	} {
		first := call()
		was := slices.Clone(first)
		for i := range first {
			first[i]++
		}
		if second := call(); !bytes.Equal(second, was) {
			t.Errorf("%v, behind a change of what was answered ahead: %v", was, second)
		}
	}
}

func ExampleGet() {
	fmt.Println(varint.Get([]byte{172, 2}, 0, 2))
	fmt.Println(varint.Get([]byte{172, 2}, 0, 1))
	// Output:
	// 300 2 0
	// 0 0 6
}
