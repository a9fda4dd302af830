package decode_test

import (
	"encoding/binary"
	"math"
	"math/rand/v2"
	"slices"
	"testing"

	"truffle/api"
	"truffle/decode"
)

// many is a number's bytes of a kind that counts, each behind the other.
func many(kind int, l ...uint64) []byte {
	var out []byte
	for _, n := range l {
		switch kind {
		case api.Fix4:
			out = binary.LittleEndian.AppendUint32(out, uint32(n))
		case api.Fix8:
			out = binary.LittleEndian.AppendUint64(out, n)
		default:
			out = append(out, uv(n)...)
		}
	}
	return out
}

// rawEdges are raw numbers where some kind's rule has an edge.
var rawEdges = []uint64{
	0, 1, 2, 3, 127, 128, 300, 1<<31 - 1, 1 << 31, 1<<31 + 1, 1<<32 - 2, 1<<32 - 1, 1 << 32, 1<<32 + 1,
	1<<33 - 1, 1 << 62, 1<<63 - 1, 1 << 63, 1<<63 + 1, math.MaxUint64 - 1, math.MaxUint64,
}

// P11.1: Numbers of each kind that counts: none, one, and several.
func TestNumbersExamples(t *testing.T) {
	for _, c := range []struct {
		kind int
		b    []byte
		want []int64
	}{
		{api.Int, nil, nil},
		{api.Int, []byte{}, nil},
		{api.Int, []byte{5}, []int64{5}},
		{api.Int, []byte{172, 2, 0, 1}, []int64{300, 0, 1}},
		{api.Int, []byte{255, 255, 255, 255, 255, 255, 255, 255, 255, 1, 7}, []int64{-1, 7}},
		{api.Sint, []byte{0, 1, 2, 3, 172, 2}, []int64{0, -1, 1, -2, 150}},
		{api.Uint, []byte{255, 255, 255, 255, 15, 128, 128, 128, 128, 16}, []int64{1<<32 - 1, 0}},
		{api.Flag, []byte{0, 1, 2, 128, 1, 128, 0}, []int64{0, 1, 1, 1, 0}},
		{api.Enum, []byte{5, 255, 255, 255, 255, 15, 128, 128, 128, 128, 8}, []int64{5, -1, math.MinInt32}},
		{api.Fix4, []byte{1, 0, 0, 0}, []int64{1}},
		{api.Fix4, []byte{2, 1, 0, 0, 255, 255, 255, 255}, []int64{258, 1<<32 - 1}},
		{api.Fix8, []byte{1, 0, 0, 0, 0, 0, 0, 0}, []int64{1}},
		{api.Fix8, []byte{255, 255, 255, 255, 255, 255, 255, 255, 0, 0, 0, 0, 0, 0, 0, 128}, []int64{-1, math.MinInt64}},
	} {
		l, err := decode.Numbers(c.kind, c.b, 0, len(c.b))
		if err != api.OK || !slices.Equal(l, c.want) {
			t.Errorf("kind %d, %v: %v, %d", c.kind, c.b, l, err)
		}
		holdNumbers(t, c.kind, c.b, 0, len(c.b))
		among := join([]byte{200, 201}, c.b, []byte{202, 203})
		l, err = decode.Numbers(c.kind, among, 2, len(among)-2)
		if err != api.OK || !slices.Equal(l, c.want) {
			t.Errorf("kind %d, %v among others: %v, %d", c.kind, c.b, l, err)
		}
	}
}

// P11.1: numbers at all edges, of each kind, alone, and each two.
func TestNumbersEdges(t *testing.T) {
	for kind := api.Int; kind <= api.Enum; kind++ {
		for _, n := range rawEdges {
			holdNumbers(t, kind, many(kind, n), 0, len(many(kind, n)))
			for _, k := range rawEdges {
				b := many(kind, n, k)
				holdNumbers(t, kind, b, 0, len(b))
			}
		}
	}
}

// P11.1: a kind that does not count is ErrArg, whatever the bytes and the places are.
func TestNumbersKinds(t *testing.T) {
	for _, kind := range []int{math.MinInt, -1 << 32, -10, -2, -1, api.Text, api.Raw, api.Sub, api.Kinds, 11, 12, 1 << 32, math.MaxInt} {
		for _, b := range [][]byte{nil, {}, {0}, {5, 7}, {128}, make([]byte, 8), slices.Repeat([]byte{255}, 11)} {
			for _, at := range []int{-1, 0, 1, len(b), len(b) + 1} {
				l, err := decode.Numbers(kind, b, at, len(b))
				if err != api.ErrArg || len(l) > 0 {
					t.Errorf("kind %d, %v, from %d: %v, %d", kind, b, at, l, err)
				}
			}
		}
	}
}

// P11.1: places that may not be are ErrArg: below 0, beyond the bytes, at above upto.
func TestNumbersPlaces(t *testing.T) {
	places := []int{math.MinInt, math.MinInt + 1, -1 << 32, 1 << 32, 1<<32 + 1, math.MaxInt - 1, math.MaxInt}
	for place := -3; place <= 20; place++ {
		places = append(places, place)
	}
	for kind := api.Int; kind <= api.Enum; kind++ {
		for size := range 18 {
			b := slices.Repeat([]byte{1}, size)
			for _, at := range places {
				for _, upto := range places {
					holdNumbers(t, kind, b, at, upto)
					l, err := decode.Numbers(kind, b, at, upto)
					if wrong := at < 0 || at > upto || upto > size; wrong && (err != api.ErrArg || len(l) > 0) || !wrong && err == api.ErrArg {
						t.Fatalf("kind %d, %d bytes, from %d to %d: %v, %d", kind, size, at, upto, l, err)
					}
				}
			}
		}
	}
}

// P11.1: what stands beyond the bytes' end, in the same memory, is not asked.
func TestNumbersBeyond(t *testing.T) {
	room := []byte{128, 128, 1, 0, 0, 0, 0, 0, 0}
	for kind := api.Int; kind <= api.Enum; kind++ {
		for size := range 3 {
			l, err := decode.Numbers(kind, room[:size], 0, size+1)
			if err != api.ErrArg || len(l) > 0 {
				t.Errorf("kind %d: %v, %d", kind, l, err)
			}
			holdNumbers(t, kind, room[:size], 0, size)
		}
		holdNumbers(t, kind, room, 0, 2)
		holdNumbers(t, kind, room, 1, 2)
	}
}

// P11.1: bytes that end too soon, and numbers that are too long, alone and behind others: nothing is told beside the error (R4).
func TestNumbersErrors(t *testing.T) {
	long := slices.Repeat([]byte{128}, 12)
	for kind := api.Int; kind <= api.Enum; kind++ {
		for ahead := range 4 {
			good := many(kind, slices.Repeat([]uint64{5}, ahead)...)
			for size := range long {
				b := join(good, long[:size])
				l, err := decode.Numbers(kind, b, 0, len(b))
				want := api.OK
				switch {
				case kind == api.Fix4 && size%4 != 0, kind == api.Fix8 && size%8 != 0:
					want = api.ErrCut
				case kind == api.Fix4, kind == api.Fix8, size == 0:
				case size < 10:
					want = api.ErrCut
				default:
					want = api.ErrVarint
				}
				if err != want || err != api.OK && len(l) > 0 {
					t.Errorf("kind %d, %d behind %d: %v, %d", kind, size, ahead, l, err)
				}
				for _, behind := range [][]byte{{0}, {1, 1}, {2, 128}, {127, 0, 0, 0}} {
					holdNumbers(t, kind, join(b, behind), 0, len(b))
					holdNumbers(t, kind, join(b, behind), 0, len(b)+len(behind))
				}
			}
		}
	}
}

// P11.1: of two errors the first one, from left to right, is told.
func TestNumbersFirst(t *testing.T) {
	tooLong := slices.Repeat([]byte{255}, 10)
	for _, kind := range []int{api.Int, api.Sint, api.Uint, api.Flag, api.Enum} {
		b := join([]byte{1}, tooLong, []byte{128})
		if _, err := decode.Numbers(kind, b, 0, len(b)); err != api.ErrVarint {
			t.Errorf("kind %d: %d", kind, err)
		}
		if _, err := decode.Numbers(kind, b, 0, len(b)-2); err != api.ErrCut {
			t.Errorf("kind %d: %d", kind, err)
		}
		if l, err := decode.Numbers(kind, b, 0, 1); err != api.OK || len(l) != 1 {
			t.Errorf("kind %d: %v, %d", kind, l, err)
		}
	}
}

// P11.1: all short bytes of few.
func TestNumbersShort(t *testing.T) {
	few := []byte{0, 1, 3, 127, 128, 255}
	for kind := api.Int; kind <= api.Enum; kind++ {
		var all func(b []byte, left int)
		all = func(b []byte, left int) {
			holdNumbers(t, kind, b, 0, len(b))
			for _, c := range few {
				if left > 0 {
					all(append(b, c), left-1)
				}
			}
		}
		all(nil, 5)
	}
}

// P11.1: bytes made by chance, at all places.
func TestNumbersByChance(t *testing.T) {
	chance := rand.New(rand.NewPCG(11, 1))
	for range 2000 {
		b := make([]byte, chance.IntN(40))
		for i := range b {
			b[i] = byte(chance.Uint32() & chance.Uint32() & 255)
			if chance.IntN(3) > 0 {
				b[i] |= 128
			}
		}
		at := chance.IntN(len(b) + 1)
		holdNumbers(t, chance.IntN(9)-1, b, at, at+chance.IntN(len(b)+1-at))
	}
}

// P1, R3, R5: very many numbers, which are the caller's own; the same again.
func TestNumbersMany(t *testing.T) {
	const size = 1 << 20
	for kind := api.Int; kind <= api.Enum; kind++ {
		b := slices.Repeat([]byte{1}, size)
		l, err := decode.Numbers(kind, b, 0, size)
		want := map[int]int{api.Fix4: size / 4, api.Fix8: size / 8}[kind]
		if want == 0 {
			want = size
		}
		if err != api.OK || len(l) != want {
			t.Fatalf("kind %d: %d numbers, %d", kind, len(l), err)
		}
		first := l[0]
		clear(b)
		if l[0] != first || l[want-1] != first {
			t.Errorf("kind %d: later changes to the bytes change the numbers", kind)
		}
		again, _ := decode.Numbers(kind, slices.Repeat([]byte{1}, 8), 0, 8)
		clear(l)
		if again[0] != first {
			t.Errorf("kind %d: later changes to the numbers change others", kind)
		}
		if other, _ := decode.Numbers(kind, slices.Repeat([]byte{1}, 8), 0, 8); !slices.Equal(other, again) {
			t.Errorf("kind %d: %v, and then %v", kind, again, other)
		}
	}
}
