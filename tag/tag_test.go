package tag_test

import (
	"bytes"
	"fmt"
	"math"
	"slices"
	"testing"

	"truffle/api"
	"truffle/tag"
	"truffle/varint"
)

// told is what Get answers, so that all of it is held against what is asked at once.
type told struct {
	no, wire, place int
	err             api.Errno
}

func get(b []byte, at, upto int) told {
	no, wire, place, err := tag.Get(b, at, upto)
	return told{no, wire, place, err}
}

// knownWires are those of P3.1.
var knownWires = []int{0, 1, 2, 5}

// wires are all that are known, those beside them, and some that are one of them modulo 8, 2^8, 2^32 or 2^61.
func wires() []int {
	l := []int{math.MinInt, math.MinInt + 2, -1 << 61, -1 << 32, -1<<32 + 5, -256, -8, -3}
	for i := range 20 {
		l = append(l, i-2)
	}
	return append(l, 255, 256, 257, 258, 261, 1<<32-1, 1<<32, 1<<32+5, 1<<61, math.MaxInt)
}

// numbers are a field's: those at the edges, at and about each power of 2, and some whose bits are mixed; also below 0.
func numbers() []int {
	l := []int{0, 15, 16, 300, 0x12345678, 0x0aaaaaaa, math.MinInt}
	for i := range 63 {
		p := 1 << i
		l = append(l, p-1, p, p+1, -p-1, -p, -p+1)
	}
	return l
}

func mayBe(no, wire int) bool {
	return no >= 1 && no <= 536870911 && slices.Contains(knownWires, wire)
}

// wantGet is what P3.2 asks.
func wantGet(b []byte, at, upto int) told {
	n, place, err := varint.Get(b, at, upto)
	switch {
	case err != api.OK:
		return told{err: err}
	case n >= 4294967296 || n < 8:
		return told{err: api.ErrTag}
	case !slices.Contains(knownWires, int(n&7)):
		return told{err: api.ErrWire}
	}
	return told{int(n >> 3), int(n & 7), place, api.OK}
}

// P3.1: Known of every wire type, and of what is none.
func TestKnown(t *testing.T) {
	for _, wire := range []int{api.Var, api.Eight, api.Run, api.Four} {
		if !tag.Known(wire) {
			t.Errorf("%d is not known", wire)
		}
	}
	for _, wire := range wires() {
		if is := tag.Known(wire); is != slices.Contains(knownWires, wire) {
			t.Errorf("Known(%d) is %v", wire, is)
		}
	}
}

// P3.1: Put, by examples: ordinary ones, edges, and what is wrong.
func TestPutExamples(t *testing.T) {
	for _, c := range []struct {
		name     string
		no, wire int
		b        []byte
	}{
		{"field 1, a number", 1, api.Var, []byte{8}},
		{"field 1, eight bytes", 1, api.Eight, []byte{9}},
		{"field 1, Run", 1, api.Run, []byte{10}},
		{"field 1, four bytes", 1, api.Four, []byte{13}},
		{"the last one of one byte", 15, api.Four, []byte{125}},
		{"the first one of two bytes", 16, api.Var, []byte{128, 1}},
		{"the last one of two bytes", 2047, api.Four, []byte{253, 127}},
		{"the first one of three bytes", 2048, api.Eight, []byte{129, 128, 1}},
		{"the greatest one", 1<<29 - 1, api.Var, []byte{248, 255, 255, 255, 15}},
		{"the greatest one, four bytes", 1<<29 - 1, api.Four, []byte{253, 255, 255, 255, 15}},
		{"field 0", 0, api.Var, nil},
		{"field 0, four bytes", 0, api.Four, nil},
		{"above the greatest one", 1 << 29, api.Var, nil},
		{"below 0", -1, api.Var, nil},
		{"the least of all", math.MinInt, api.Var, nil},
		{"the greatest of all", math.MaxInt, api.Four, nil},
		{"1 modulo 2^61, of which 8 times wraps round", 1<<61 + 1, api.Run, nil},
		{"1 modulo 2^61, below 0", -1<<61 + 1, api.Run, nil},
		{"1 modulo 2^32", 1<<32 + 1, api.Run, nil},
		{"wire type 3", 1, 3, nil},
		{"wire type 4", 1, 4, nil},
		{"wire type 6", 1, 6, nil},
		{"wire type 7", 1, 7, nil},
		{"wire type 8, which would be field 2", 1, 8, nil},
		{"wire type 8 of field 0, which would be field 1", 0, 8, nil},
		{"wire type 13, which would be field 2", 1, 13, nil},
		{"a wire type below 0", 1, -1, nil},
		{"a wire type below 0, which would be field 1", 2, -8, nil},
		{"a wire type below 0, which would be field 1, Run", 2, -6, nil},
		{"a field below 0, with a wire type that makes up for it", -1, 16, nil},
		{"the greatest field, with a wire type from above", 1 << 29, -8, nil},
		{"neither", 0, 3, nil},
	} {
		if b, ok := tag.Put(c.no, c.wire); ok != (c.b != nil) || !bytes.Equal(b, c.b) {
			t.Errorf("%s: %v, %v, not %v", c.name, b, ok, c.b)
		}
	}
}

// P3.1: Put of many fields, with all wire types; with what may not be there is nothing (R4).
func TestPutOfManyFields(t *testing.T) {
	for _, no := range numbers() {
		for _, wire := range wires() {
			var want []byte
			if mayBe(no, wire) {
				want = varint.Put(uint64(no)*8 + uint64(wire))
			}
			if b, ok := tag.Put(no, wire); ok != mayBe(no, wire) || !bytes.Equal(b, want) {
				t.Errorf("Put(%d, %d) is %v, %v, not %v", no, wire, b, ok, want)
			}
		}
	}
}

// P3.2: Get, by examples: ordinary ones, edges, and what is wrong.
func TestGetExamples(t *testing.T) {
	on := func(n int, then ...byte) []byte { return append(bytes.Repeat([]byte{255}, n), then...) }
	for _, c := range []struct {
		name     string
		b        []byte
		at, upto int
		want     told
	}{
		{"field 1, a number", []byte{8}, 0, 1, told{1, 0, 1, api.OK}},
		{"field 1, eight bytes", []byte{9}, 0, 1, told{1, 1, 1, api.OK}},
		{"field 1, Run", []byte{10}, 0, 1, told{1, 2, 1, api.OK}},
		{"field 1, four bytes", []byte{13}, 0, 1, told{1, 5, 1, api.OK}},
		{"two bytes", []byte{129, 1}, 0, 2, told{16, 1, 2, api.OK}},
		{"bytes that go on behind", []byte{10, 255, 255}, 0, 3, told{1, 2, 1, api.OK}},
		{"from the middle", []byte{255, 129, 1, 8}, 1, 4, told{16, 1, 3, api.OK}},
		{"more bytes than need be", []byte{136, 128, 0}, 0, 3, told{1, 0, 3, api.OK}},
		{"ten bytes, modulo 2^64", append([]byte{138}, append(bytes.Repeat([]byte{128}, 8), 2)...), 0, 10, told{1, 2, 10, api.OK}},
		{"the greatest field", []byte{253, 255, 255, 255, 15}, 0, 5, told{1<<29 - 1, 5, 5, api.OK}},
		{"2^32 - 1", []byte{255, 255, 255, 255, 15}, 0, 5, told{err: api.ErrWire}},
		{"2^32", []byte{128, 128, 128, 128, 16}, 0, 5, told{err: api.ErrTag}},
		{"2^32 and 10", []byte{138, 128, 128, 128, 16}, 0, 5, told{err: api.ErrTag}},
		{"2^32 and 3, of no wire type", []byte{131, 128, 128, 128, 16}, 0, 5, told{err: api.ErrTag}},
		{"2^35", []byte{128, 128, 128, 128, 128, 1}, 0, 6, told{err: api.ErrTag}},
		{"2^63 and 8", append([]byte{136}, append(bytes.Repeat([]byte{128}, 8), 1)...), 0, 10, told{err: api.ErrTag}},
		{"2^64 - 1", on(9, 1), 0, 10, told{err: api.ErrTag}},
		{"0", []byte{0}, 0, 1, told{err: api.ErrTag}},
		{"field 0, Run", []byte{2}, 0, 1, told{err: api.ErrTag}},
		{"field 0, of no wire type", []byte{3}, 0, 1, told{err: api.ErrTag}},
		{"7", []byte{7}, 0, 1, told{err: api.ErrTag}},
		{"wire type 3", []byte{11}, 0, 1, told{err: api.ErrWire}},
		{"wire type 4", []byte{12}, 0, 1, told{err: api.ErrWire}},
		{"wire type 6", []byte{14}, 0, 1, told{err: api.ErrWire}},
		{"wire type 7", []byte{15}, 0, 1, told{err: api.ErrWire}},
		{"wire type 3 of field 16", []byte{131, 1}, 0, 2, told{err: api.ErrWire}},
		{"none", nil, 0, 0, told{err: api.ErrCut}},
		{"none at the end", []byte{8}, 1, 1, told{err: api.ErrCut}},
		{"none ahead of upto", []byte{8}, 0, 0, told{err: api.ErrCut}},
		{"cut off", []byte{136}, 0, 1, told{err: api.ErrCut}},
		{"cut off by upto", []byte{129, 1}, 0, 1, told{err: api.ErrCut}},
		{"nine that go on", on(9), 0, 9, told{err: api.ErrCut}},
		{"ten that go on", on(10), 0, 10, told{err: api.ErrVarint}},
		{"ten that go on, and one behind", on(10, 1), 0, 11, told{err: api.ErrVarint}},
		{"at below 0", []byte{8}, -1, 1, told{err: api.ErrArg}},
		{"at above upto", []byte{8}, 1, 0, told{err: api.ErrArg}},
		{"upto above all bytes", []byte{8}, 0, 2, told{err: api.ErrArg}},
		{"upto within the capacity", make([]byte, 1, 4), 0, 2, told{err: api.ErrArg}},
		{"places of no bytes", nil, 0, 1, told{err: api.ErrArg}},
		{"far away", []byte{8}, math.MinInt, math.MaxInt, told{err: api.ErrArg}},
	} {
		if got := get(c.b, c.at, c.upto); got != c.want {
			t.Errorf("%s: %v, not %v", c.name, got, c.want)
		}
	}
}

// P3.2: Get of all numbers of one or two bytes, and of those at and about each power of 2.
func TestGetOfManyNumbers(t *testing.T) {
	var l []uint64
	for n := range 1 << 14 {
		l = append(l, uint64(n))
	}
	for i := range 64 {
		for d := range 40 {
			l = append(l, uint64(1)<<i+uint64(d)-20)
		}
	}
	for _, n := range l {
		b := varint.Put(n)
		if got, want := get(b, 0, len(b)), wantGet(b, 0, len(b)); got != want {
			t.Fatalf("Get of %d is %v, not %v", n, got, want)
		}
	}
}

// P3.2: Get at all places, of bytes that tell something from some of them on, and nothing from others.
func TestGetAtAllPlaces(t *testing.T) {
	places := []int{math.MinInt, -1 << 32, 1 << 32, math.MaxInt - 9, math.MaxInt}
	for i := range 20 {
		places = append(places, i-2)
	}
	for _, b := range [][]byte{
		nil,
		{8, 129, 1, 3, 11, 138, 128, 128, 128, 16, 253, 255, 255, 255, 15, 200},
		{255, 255, 255, 255, 255, 255, 255, 255, 255, 255, 255, 255, 1, 10, 0, 128},
		{128, 128, 128, 128, 128, 128, 128, 128, 128, 2, 138, 128, 0, 14, 7, 13},
	} {
		for _, at := range places {
			for _, upto := range places {
				if got, want := get(b, at, upto), wantGet(b, at, upto); got != want {
					t.Fatalf("Get(%v, %d, %d) is %v, not %v", b, at, upto, got, want)
				}
			}
		}
	}
}

// P3.3: what is put is got, whatever stands behind, and ahead.
func TestWhatIsPutIsGot(t *testing.T) {
	tails := [][]byte{nil, {0}, {1, 2}, {127}, {128}, {255, 255}, bytes.Repeat([]byte{255}, 12)}
	for _, no := range numbers() {
		for _, wire := range knownWires {
			if !mayBe(no, wire) {
				continue
			}
			put, ok := tag.Put(no, wire)
			for _, tail := range tails {
				b := slices.Concat(tail, put, tail)
				end := len(tail) + len(put)
				if got := get(b, len(tail), len(b)); !ok || got != (told{no, wire, end, api.OK}) {
					t.Fatalf("field %d, wire type %d, beside %v: %v", no, wire, tail, got)
				}
				if got := get(b, len(tail), end); got != (told{no, wire, end, api.OK}) {
					t.Fatalf("field %d, wire type %d, up to its end: %v", no, wire, got)
				}
				if got := get(b, len(tail), end-1); got != (told{err: api.ErrCut}) {
					t.Fatalf("field %d, wire type %d, cut off: %v", no, wire, got)
				}
			}
		}
	}
}

// R3: what is handed in stays, and what is answered is the caller's own.
func TestBytesAreTheCallersOwn(t *testing.T) {
	b := []byte{129, 1, 9, 8, 7}
	was := slices.Clone(b)
	get(b, 0, len(b))
	if !bytes.Equal(b, was) {
		t.Errorf("what was handed in is %v", b)
	}
	for _, no := range []int{1, 16, 1<<29 - 1} {
		first, _ := tag.Put(no, api.Run)
		was := slices.Clone(first)
		for i := range first {
			first[i]++
		}
		if second, _ := tag.Put(no, api.Run); !bytes.Equal(second, was) {
			t.Errorf("%v, behind a change of what was answered ahead: %v", was, second)
		}
	}
}

func ExamplePut() {
	fmt.Println(tag.Put(1, api.Run))
	fmt.Println(tag.Put(0, api.Run))
	// Output:
	// [10] true
	// [] false
}

func ExampleGet() {
	fmt.Println(tag.Get([]byte{10, 0}, 0, 2))
	fmt.Println(tag.Get([]byte{11, 0}, 0, 2))
	// Output:
	// 1 2 1 0
	// 0 0 0 8
}
