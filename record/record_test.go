package record_test

import (
	"bytes"
	"fmt"
	"math"
	"slices"
	"testing"

	"truffle/api"
	"truffle/record"
	"truffle/tag"
	"truffle/varint"
)

// told is what Next answers, so that all of it is held against what is asked at once.
type told struct {
	rec   api.Rec
	place int
	err   api.Errno
}

func next(b []byte, at, upto int) told {
	r, place, err := record.Next(b, at, upto)
	return told{r, place, err}
}

// fails is what is told with an error: all else is zero.
func fails(err api.Errno) told { return told{err: err} }

// is is what is told of a record, behind which there is the place Upto.
func is(no, wire int, num uint64, from, upto int) told {
	return told{api.Rec{No: no, Wire: wire, Num: num, From: from, Upto: upto}, upto, api.OK}
}

// wantNext is what P5.1 asks.
func wantNext(b []byte, at, upto int) told {
	no, wire, behind, err := tag.Get(b, at, upto)
	if err != api.OK {
		return fails(err)
	}
	var num uint64
	var end int
	if size := map[int]int{1: 8, 5: 4}[wire]; size > 0 {
		num, end, err = varint.Unfix(b, behind, upto, size)
	} else {
		num, end, err = varint.Get(b, behind, upto)
	}
	switch {
	case err != api.OK:
		return fails(err)
	case wire != 2:
		return is(no, wire, num, behind, end)
	}
	// A byte is taken for each that the number tells, so that none is too great to be counted.
	at = end
	for left := num; left > 0; left-- {
		if at == upto {
			return fails(api.ErrCut)
		}
		at++
	}
	return is(no, wire, num, end, at)
}

// wantAll is what P5.2 asks.
func wantAll(b []byte, at, upto int) ([]api.Rec, api.Errno) {
	if at < 0 || at > len(b) || upto < 0 || upto > len(b) || at > upto {
		return nil, api.ErrArg
	}
	if at == upto {
		return nil, api.OK
	}
	first := wantNext(b, at, upto)
	if first.err != api.OK {
		return nil, first.err
	}
	others, err := wantAll(b, first.place, upto)
	return append([]api.Rec{first.rec}, others...), err
}

// holdAll holds All against what P5.2 asks.
func holdAll(t *testing.T, b []byte, at, upto int) {
	t.Helper()
	want, wantErr := wantAll(b, at, upto)
	if l, err := record.All(b, at, upto); err != wantErr || !slices.Equal(l, want) {
		t.Fatalf("All(%v, %d, %d) is %v, %d, not %v, %d", b, at, upto, l, err, want, wantErr)
	}
}

// cat is bytes, one behind the other.
func cat(parts ...[]byte) []byte { return slices.Concat(parts...) }

// many is a byte, so many times.
func many(x byte, n int) []byte { return bytes.Repeat([]byte{x}, n) }

// four is a record of each wire type, as bytes: one behind the other, of 3, 5, 5 and 9 bytes.
func four() []byte {
	return []byte{8, 172, 2, 18, 3, 'a', 'b', 'c', 29, 1, 0, 0, 0, 33, 2, 0, 0, 0, 0, 0, 0, 0}
}

// recsOfFour are the records of four.
func recsOfFour() []api.Rec {
	return []api.Rec{
		{No: 1, Wire: 0, Num: 300, From: 1, Upto: 3},
		{No: 2, Wire: 2, Num: 3, From: 5, Upto: 8},
		{No: 3, Wire: 5, Num: 1, From: 9, Upto: 13},
		{No: 4, Wire: 1, Num: 2, From: 14, Upto: 22},
	}
}

// places are those that may be of so many bytes, those just beside, and ones far away.
func places(long int) []int {
	l := []int{math.MinInt, -1 << 32, -2}
	for i := range long + 3 {
		l = append(l, i-1)
	}
	return append(l, 1<<32, math.MaxInt-8, math.MaxInt)
}

// numbers are those at and about each power of 2, and some whose bits are mixed.
func numbers() []uint64 {
	l := []uint64{0, 300, 0x0123456789abcdef, 0xfedcba9876543210, math.MaxUint64}
	for i := range 64 {
		p := uint64(1) << i
		l = append(l, p-1, p, p+1)
	}
	return l
}

// P5.1: Next of a record of each wire type: ordinary ones, and edges of what is told.
func TestNextExamples(t *testing.T) {
	for _, c := range []struct {
		name     string
		b        []byte
		at, upto int
		want     told
	}{
		{"a number", []byte{8, 172, 2}, 0, 3, is(1, 0, 300, 1, 3)},
		{"number 0", []byte{8, 0}, 0, 2, is(1, 0, 0, 1, 2)},
		{"a number of more bytes than need be", []byte{8, 129, 128, 0}, 0, 4, is(1, 0, 1, 1, 4)},
		{"a number of ten bytes", cat([]byte{8}, many(255, 9), []byte{1}), 0, 11, is(1, 0, math.MaxUint64, 1, 11)},
		{"a number of ten bytes, modulo 2^64", cat([]byte{8}, many(255, 9), []byte{126}), 0, 11, is(1, 0, 1<<63-1, 1, 11)},
		{"eight bytes", []byte{33, 1, 2, 3, 4, 5, 6, 7, 128}, 0, 9, is(4, 1, 0x8007060504030201, 1, 9)},
		{"four bytes", []byte{29, 1, 2, 3, 128}, 0, 5, is(3, 5, 0x80030201, 1, 5)},
		{"bytes that go on, as a number would", cat([]byte{29}, many(255, 4)), 0, 5, is(3, 5, math.MaxUint32, 1, 5)},
		{"a run", []byte{18, 3, 'a', 'b', 'c'}, 0, 5, is(2, 2, 3, 2, 5)},
		{"a run of no bytes", []byte{18, 0}, 0, 2, is(2, 2, 0, 2, 2)},
		{"a run of no bytes, and others behind", []byte{18, 0, 255, 255}, 0, 4, is(2, 2, 0, 2, 2)},
		{"a run of one byte", []byte{10, 1, 255}, 0, 3, is(1, 2, 1, 2, 3)},
		{"a run whose length has more bytes than need be", []byte{10, 130, 128, 0, 7, 8, 9}, 0, 7, is(1, 2, 2, 4, 6)},
		{"a run whose length is modulo 2^64", cat([]byte{10, 129}, many(128, 8), []byte{2, 7, 8}), 0, 13, is(1, 2, 1, 11, 12)},
		{"a run of 128 bytes", cat([]byte{10, 128, 1}, many(9, 128)), 0, 131, is(1, 2, 128, 3, 131)},
		{"a field of two bytes", []byte{130, 1, 1, 5}, 0, 4, is(16, 2, 1, 3, 4)},
		{"the greatest field", []byte{248, 255, 255, 255, 15, 5}, 0, 6, is(1<<29-1, 0, 5, 5, 6)},
		{"a field of more bytes than need be", []byte{136, 128, 0, 5}, 0, 4, is(1, 0, 5, 3, 4)},
		{"bytes that are none behind", []byte{8, 5, 255, 255}, 0, 4, is(1, 0, 5, 1, 2)},
		{"from the middle", []byte{255, 255, 18, 1, 7, 255}, 2, 6, is(2, 2, 1, 4, 5)},
		{"from the middle, up to its end", []byte{255, 255, 8, 5, 255}, 2, 4, is(1, 0, 5, 3, 4)},
	} {
		if got := next(c.b, c.at, c.upto); got != c.want {
			t.Errorf("%s: %v, not %v", c.name, got, c.want)
		}
	}
}

// P5.1: Next of what is wrong, ahead of what stands there and in it.
func TestNextErrors(t *testing.T) {
	for _, c := range []struct {
		name     string
		b        []byte
		at, upto int
		err      api.Errno
	}{
		{"no bytes", nil, 0, 0, api.ErrCut},
		{"none at the end", []byte{8, 5}, 2, 2, api.ErrCut},
		{"none ahead of upto", []byte{8, 5}, 0, 0, api.ErrCut},
		{"a field that is cut", []byte{136}, 0, 1, api.ErrCut},
		{"a field that does not end", many(255, 10), 0, 10, api.ErrVarint},
		{"field 0", []byte{0, 1}, 0, 2, api.ErrTag},
		{"a field above the greatest one", []byte{128, 128, 128, 128, 16, 1}, 0, 6, api.ErrTag},
		{"field 0, of no wire type", []byte{3, 1}, 0, 2, api.ErrTag},
		{"wire type 3", []byte{11}, 0, 1, api.ErrWire},
		{"wire type 4", []byte{12, 1}, 0, 2, api.ErrWire},
		{"wire type 6", []byte{14, 1}, 0, 2, api.ErrWire},
		{"wire type 7", []byte{15, 1}, 0, 2, api.ErrWire},
		{"a number of no bytes", []byte{8}, 0, 1, api.ErrCut},
		{"a number that is cut", []byte{8, 128}, 0, 2, api.ErrCut},
		{"a number of nine bytes that go on", cat([]byte{8}, many(128, 9)), 0, 10, api.ErrCut},
		{"a number of nine bytes that go on, by upto", cat([]byte{8}, many(128, 9), []byte{1}), 0, 10, api.ErrCut},
		{"a number of ten bytes that go on", cat([]byte{8}, many(128, 10)), 0, 11, api.ErrVarint},
		{"a length of no bytes", []byte{10}, 0, 1, api.ErrCut},
		{"a length that is cut", []byte{10, 128}, 0, 2, api.ErrCut},
		{"a length of ten bytes that go on", cat([]byte{10}, many(128, 10), many(0, 9)), 0, 20, api.ErrVarint},
		{"at below 0", []byte{8, 5}, -1, 2, api.ErrArg},
		{"at above upto", []byte{8, 5}, 2, 1, api.ErrArg},
		{"upto above all bytes", []byte{8, 5}, 0, 3, api.ErrArg},
		{"at and upto above all bytes", []byte{8, 5}, 3, 3, api.ErrArg},
		{"at and upto below 0", []byte{8, 5}, -1, -1, api.ErrArg},
		{"upto within the capacity", append(make([]byte, 0, 8), 8, 5), 0, 3, api.ErrArg},
		{"places of no bytes", nil, 0, 1, api.ErrArg},
		{"far away", []byte{8, 5}, math.MinInt, math.MaxInt, api.ErrArg},
		{"far away, the wrong way round", []byte{8, 5}, math.MaxInt, math.MinInt, api.ErrArg},
	} {
		if got := next(c.b, c.at, c.upto); got != fails(c.err) {
			t.Errorf("%s: %v, not %v", c.name, got, fails(c.err))
		}
	}
}

// P5.1: a Run as long as what is left to upto is one; one that is longer by a byte is cut, also if there are bytes behind upto.
func TestRunsByWhatIsLeft(t *testing.T) {
	for _, long := range []int{0, 1, 2, 3, 126, 127, 128, 129, 300, 16383, 16384} {
		size := varint.Put(uint64(long))
		b := cat([]byte{10}, size, many(7, long), many(9, 3))
		from := 1 + len(size)
		end := from + long
		want := is(1, 2, uint64(long), from, end)
		if got := next(b, 0, end); got != want {
			t.Errorf("%d bytes, up to their end: %v", long, got)
		}
		if got := next(b, 0, len(b)); got != want {
			t.Errorf("%d bytes, and some behind: %v", long, got)
		}
		if got := next(b, 0, end-1); got != fails(api.ErrCut) {
			t.Errorf("%d bytes, one less to upto: %v", long, got)
		}
		if got := next(b[:end-1], 0, end-1); got != fails(api.ErrCut) {
			t.Errorf("%d bytes, one less there: %v", long, got)
		}
	}
}

// P5.1: a Run whose length is near 2^31, 2^32, 2^63 or 2^64 is cut, whatever stands behind.
func TestRunsThatAreFarTooLong(t *testing.T) {
	var l []uint64
	for d := range uint64(24) {
		l = append(l, 1<<31-12+d, 1<<32-12+d, 1<<62-12+d, 1<<63-12+d, math.MaxUint64-d)
	}
	for _, num := range l {
		for _, tail := range [][]byte{nil, {1}, many(8, 40)} {
			b := cat([]byte{255, 10}, varint.Put(num), tail)
			if got := next(b, 1, len(b)); got != fails(api.ErrCut) {
				t.Errorf("a run of %d bytes: %v", num, got)
			}
			if all, err := record.All(b, 1, len(b)); err != api.ErrCut || len(all) != 0 {
				t.Errorf("all of a run of %d bytes: %v, %d", num, all, err)
			}
		}
	}
}

// P5.1: numbers of one to ten bytes, of a Var and of a Run's length; of eleven there are none.
func TestNumbersByHowManyBytes(t *testing.T) {
	for long := 1; long <= 12; long++ {
		number := cat(many(128, long-1), []byte{0})
		wantVar, wantRun := is(1, 0, 0, 1, long+1), is(1, 2, 0, long+1, long+1)
		if long > 10 {
			wantVar, wantRun = fails(api.ErrVarint), fails(api.ErrVarint)
		}
		for _, tail := range [][]byte{nil, {0}, {255, 255}} {
			b := cat([]byte{8}, number, tail)
			if got := next(b, 0, len(b)); got != wantVar {
				t.Errorf("a number of %d bytes: %v, not %v", long, got, wantVar)
			}
			b[0] = 10
			if got := next(b, 0, len(b)); got != wantRun {
				t.Errorf("a length of %d bytes: %v, not %v", long, got, wantRun)
			}
		}
	}
}

// P5.1: a record of each wire type that is cut at each of its bytes, by upto, and by there being no more.
func TestRecordsThatAreCut(t *testing.T) {
	for _, r := range []struct {
		name string
		b    []byte
	}{
		{"a number", []byte{8, 5}},
		{"a number of ten bytes", cat([]byte{8}, many(255, 9), []byte{1})},
		{"eight bytes", []byte{9, 1, 2, 3, 4, 5, 6, 7, 8}},
		{"four bytes", []byte{13, 1, 2, 3, 4}},
		{"a run", []byte{10, 5, 1, 2, 3, 4, 5}},
		{"a run of no bytes", []byte{10, 0}},
		{"a run of 130 bytes, of a field of five", cat([]byte{250, 255, 255, 255, 15, 130, 1}, many(8, 130))},
	} {
		if got := next(r.b, 0, len(r.b)); got.err != api.OK || got.place != len(r.b) {
			t.Errorf("%s: %v", r.name, got)
		}
		for upto := range len(r.b) {
			if got := next(r.b, 0, upto); got != fails(api.ErrCut) {
				t.Errorf("%s, up to %d: %v", r.name, upto, got)
			}
			if got := next(r.b[:upto:upto], 0, upto); got != fails(api.ErrCut) {
				t.Errorf("%s, of which there are %d: %v", r.name, upto, got)
			}
		}
	}
}

// P5.1, P5.2: all bytes that are put together of some that tell something.
func TestAllShortBytes(t *testing.T) {
	last := [][]byte{nil}
	for range 5 {
		var longer [][]byte
		for _, b := range last {
			for _, x := range []byte{0, 1, 2, 8, 10, 11, 13, 18, 128, 255} {
				longer = append(longer, append(slices.Clone(b), x))
			}
		}
		for _, b := range longer {
			if got, want := next(b, 0, len(b)), wantNext(b, 0, len(b)); got != want {
				t.Fatalf("Next(%v) is %v, not %v", b, got, want)
			}
			holdAll(t, b, 0, len(b))
		}
		last = longer
	}
}

// P5.1, P5.2: at all places, also such as may not be, of records, and of bytes that are none from some places on.
func TestAtAllPlaces(t *testing.T) {
	for _, b := range [][]byte{
		nil,
		four(),
		{10, 4, 8, 1, 16, 2, 130, 1, 3, 29, 1, 0, 0, 0, 8, 255, 3, 11, 8, 1},
		{34, 2, 8, 5, 34, 2, 16, 1, 0, 8, 1},
		cat([]byte{9}, many(10, 20)),
		cat([]byte{8}, many(255, 12), []byte{1, 8, 7, 200}),
	} {
		for _, at := range places(len(b)) {
			for _, upto := range places(len(b)) {
				if got, want := next(b, at, upto), wantNext(b, at, upto); got != want {
					t.Fatalf("Next(%v, %d, %d) is %v, not %v", b, at, upto, got, want)
				}
				holdAll(t, b, at, upto)
			}
		}
	}
}

// P5.2: All, by examples: ordinary ones, edges, and what is wrong.
func TestAllExamples(t *testing.T) {
	b, recs := four(), recsOfFour()
	twice := []api.Rec{{No: 1, Wire: 0, Num: 5, From: 1, Upto: 2}, {No: 1, Wire: 0, Num: 7, From: 3, Upto: 4}}
	for _, c := range []struct {
		name     string
		b        []byte
		at, upto int
		want     []api.Rec
		err      api.Errno
	}{
		{"one of each wire type", b, 0, 22, recs, api.OK},
		{"one field twice", []byte{8, 5, 8, 7}, 0, 4, twice, api.OK},
		{"the first one", b, 0, 3, recs[:1], api.OK},
		{"some from the middle", b, 3, 13, recs[1:3], api.OK},
		{"the last one", b, 13, 22, recs[3:], api.OK},
		{"a run that looks like records is one", []byte{10, 2, 8, 5}, 0, 4, []api.Rec{{No: 1, Wire: 2, Num: 2, From: 2, Upto: 4}}, api.OK},
		{"runs of no bytes", []byte{10, 0, 18, 0}, 0, 4, []api.Rec{{No: 1, Wire: 2, From: 2, Upto: 2}, {No: 2, Wire: 2, From: 4, Upto: 4}}, api.OK},
		{"no bytes", nil, 0, 0, nil, api.OK},
		{"nothing at the beginning", b, 0, 0, nil, api.OK},
		{"nothing inside of a record", b, 2, 2, nil, api.OK},
		{"nothing at the end", b, 22, 22, nil, api.OK},
		{"the first one is cut", b, 0, 2, nil, api.ErrCut},
		{"the first one has no wire type", []byte{11, 8, 5}, 0, 3, nil, api.ErrWire},
		{"the second one is cut behind its field", b, 0, 4, recs[:1], api.ErrCut},
		{"the second one is cut behind its length", b, 0, 5, recs[:1], api.ErrCut},
		{"the second one is cut", b, 0, 7, recs[:1], api.ErrCut},
		{"the last one is cut", b, 0, 21, recs[:3], api.ErrCut},
		{"the third one is field 0", []byte{8, 5, 8, 7, 0, 1, 8, 5}, 0, 8, twice, api.ErrTag},
		{"the third one has no wire type", []byte{8, 5, 8, 7, 15, 1, 8, 5}, 0, 8, twice, api.ErrWire},
		{"the third one does not end", cat([]byte{8, 5, 8, 7, 8}, many(128, 10), []byte{1}), 0, 16, twice, api.ErrVarint},
		{"the third one's field does not end", cat([]byte{8, 5, 8, 7}, many(128, 10), []byte{1}), 0, 15, twice, api.ErrVarint},
		{"the third one is too long", []byte{8, 5, 8, 7, 10, 3, 8, 5}, 0, 8, twice, api.ErrCut},
		{"two have an error: the first one's is told", []byte{8, 5, 8, 7, 0, 11}, 0, 6, twice, api.ErrTag},
		{"two have an error, the other way round", []byte{8, 5, 8, 7, 11, 0}, 0, 6, twice, api.ErrWire},
		{"at below 0", b, -1, 22, nil, api.ErrArg},
		{"at above upto", b, 3, 0, nil, api.ErrArg},
		{"at above upto by one", b, 2, 1, nil, api.ErrArg},
		{"upto above all bytes", b, 0, 23, nil, api.ErrArg},
		{"upto above all bytes, behind an error", []byte{11}, 0, 2, nil, api.ErrArg},
		{"upto within the capacity", append(make([]byte, 0, 8), 8, 5), 0, 4, nil, api.ErrArg},
		{"nothing, above all bytes", b, 23, 23, nil, api.ErrArg},
		{"nothing, within the capacity", append(make([]byte, 0, 8), 8, 5), 3, 3, nil, api.ErrArg},
		{"nothing, below 0", b, -1, -1, nil, api.ErrArg},
		{"nothing of no bytes, above them", nil, 1, 1, nil, api.ErrArg},
		{"far away", b, math.MinInt, math.MaxInt, nil, api.ErrArg},
		{"far away, the wrong way round", b, math.MaxInt, math.MinInt, nil, api.ErrArg},
	} {
		if l, err := record.All(c.b, c.at, c.upto); err != c.err || !slices.Equal(l, c.want) {
			t.Errorf("%s: %v, %d, not %v, %d", c.name, l, err, c.want, c.err)
		}
	}
}

// P5.2: of records, cut at each byte, all that are whole are told, and ErrCut but where one ends.
func TestAllThatAreCut(t *testing.T) {
	b, recs := four(), recsOfFour()
	for upto := range len(b) + 1 {
		whole, err := 0, api.ErrCut
		for _, r := range recs {
			if r.Upto <= upto {
				whole++
			}
		}
		if slices.Contains([]int{0, 3, 8, 13, 22}, upto) {
			err = api.OK
		}
		for _, cut := range [][]byte{b, b[:upto:upto]} {
			if l, got := record.All(cut, 0, upto); got != err || !slices.Equal(l, recs[:whole]) {
				t.Errorf("up to %d of %d: %v, %d", upto, len(cut), l, got)
			}
		}
	}
}

// P5.2: as many records as there are, also with an error behind them.
func TestAllOfManyRecords(t *testing.T) {
	b := bytes.Repeat(four(), 5000)
	l, err := record.All(b, 0, len(b))
	if err != api.OK || len(l) != 20000 {
		t.Errorf("%d records, %d", len(l), err)
	}
	l, err = record.All(append(b, 14), 0, len(b)+1)
	if err != api.ErrWire || len(l) != 20000 {
		t.Errorf("%d records, %d, ahead of one of no wire type", len(l), err)
	}
}

// P5.3: Put, by examples: ordinary ones, edges, what is not asked for, and what is wrong.
func TestPutExamples(t *testing.T) {
	run := []byte("abc")
	for _, c := range []struct {
		name string
		r    api.Rec
		run  []byte
		b    []byte
	}{
		{"a number", api.Rec{No: 1, Wire: 0, Num: 300}, nil, []byte{8, 172, 2}},
		{"number 0", api.Rec{No: 1, Wire: 0}, nil, []byte{8, 0}},
		{"the greatest number", api.Rec{No: 1, Wire: 0, Num: math.MaxUint64}, nil, cat([]byte{8}, many(255, 9), []byte{1})},
		{"a number: no run is put", api.Rec{No: 1, Wire: 0, Num: 5}, run, []byte{8, 5}},
		{"eight bytes", api.Rec{No: 4, Wire: 1, Num: 0x8007060504030201}, nil, []byte{33, 1, 2, 3, 4, 5, 6, 7, 128}},
		{"eight bytes: no run is put", api.Rec{No: 4, Wire: 1, Num: 2}, run, []byte{33, 2, 0, 0, 0, 0, 0, 0, 0}},
		{"four bytes", api.Rec{No: 3, Wire: 5, Num: 0x80030201}, nil, []byte{29, 1, 2, 3, 128}},
		{"four bytes: the lowest ones", api.Rec{No: 3, Wire: 5, Num: 0x0807060504030201}, nil, []byte{29, 1, 2, 3, 4}},
		{"four bytes: no run is put", api.Rec{No: 3, Wire: 5, Num: 1}, run, []byte{29, 1, 0, 0, 0}},
		{"a run", api.Rec{No: 2, Wire: 2, Num: 3}, run, []byte{18, 3, 'a', 'b', 'c'}},
		{"a run: its number is not asked for", api.Rec{No: 2, Wire: 2, Num: math.MaxUint64}, run, []byte{18, 3, 'a', 'b', 'c'}},
		{"a run of no bytes", api.Rec{No: 2, Wire: 2, Num: 7}, nil, []byte{18, 0}},
		{"a run of no bytes, but a list", api.Rec{No: 2, Wire: 2}, []byte{}, []byte{18, 0}},
		{"a run of 127 bytes", api.Rec{No: 1, Wire: 2}, many(7, 127), cat([]byte{10, 127}, many(7, 127))},
		{"a run of 128 bytes", api.Rec{No: 1, Wire: 2}, many(7, 128), cat([]byte{10, 128, 1}, many(7, 128))},
		{"a run of 16384 bytes", api.Rec{No: 1, Wire: 2}, many(7, 16384), cat([]byte{10, 128, 128, 1}, many(7, 16384))},
		{"places are not asked for", api.Rec{No: 1, Wire: 0, Num: 5, From: -9, Upto: math.MaxInt}, nil, []byte{8, 5}},
		{"a field of two bytes", api.Rec{No: 16, Wire: 2}, run, []byte{130, 1, 3, 'a', 'b', 'c'}},
		{"the greatest field", api.Rec{No: 1<<29 - 1, Wire: 0, Num: 5}, nil, []byte{248, 255, 255, 255, 15, 5}},
		{"nothing at all", api.Rec{}, nil, nil},
		{"field 0", api.Rec{No: 0, Wire: 2}, run, nil},
		{"above the greatest field", api.Rec{No: 1 << 29, Wire: 0}, nil, nil},
		{"a field below 0", api.Rec{No: -1, Wire: 0}, nil, nil},
		{"wire type 3", api.Rec{No: 1, Wire: 3}, run, nil},
		{"wire type 4", api.Rec{No: 1, Wire: 4}, nil, nil},
		{"wire type 6", api.Rec{No: 1, Wire: 6}, nil, nil},
		{"wire type 7", api.Rec{No: 1, Wire: 7}, nil, nil},
		{"wire type 8", api.Rec{No: 1, Wire: 8}, nil, nil},
		{"wire type 10, which would be a run", api.Rec{No: 1, Wire: 10}, run, nil},
		{"a wire type below 0", api.Rec{No: 2, Wire: -6}, run, nil},
	} {
		if b, ok := record.Put(c.r, c.run); ok != (c.b != nil) || !bytes.Equal(b, c.b) {
			t.Errorf("%s: %v, %v, not %v", c.name, b, ok, c.b)
		}
	}
}

// P5.3: of all fields and wire types, there is nothing just where there is no tag.
func TestPutJustWithATag(t *testing.T) {
	for _, no := range []int{math.MinInt, -1 << 61, -2, -1, 0, 1, 2, 15, 16, 1<<29 - 1, 1 << 29, 1 << 32, 1<<32 + 1, 1<<61 + 1, math.MaxInt} {
		for _, wire := range []int{math.MinInt, -8, -1, 0, 1, 2, 3, 4, 5, 6, 7, 8, 9, 10, 13, 256, 1 << 32, 1<<32 + 2, math.MaxInt} {
			ahead, may := tag.Put(no, wire)
			b, ok := record.Put(api.Rec{No: no, Wire: wire, Num: 5, From: 1, Upto: 2}, []byte{7})
			if ok != may || !bytes.HasPrefix(b, ahead) || (len(b) > len(ahead)) != may {
				t.Errorf("field %d, wire type %d: %v, %v", no, wire, b, ok)
			}
		}
	}
}

// P5.4: what is put of a number is one record with it (of four bytes modulo 2^32), whatever stands behind, and ahead.
func TestNumbersThatArePut(t *testing.T) {
	tails := [][]byte{nil, {0}, {127}, {128}, many(255, 12)}
	for _, no := range []int{1, 15, 16, 2048, 1<<29 - 1} {
		for _, wire := range []int{api.Var, api.Eight, api.Four} {
			for _, num := range numbers() {
				put, ok := record.Put(api.Rec{No: no, Wire: wire, Num: num}, []byte{1, 2})
				want := num
				if wire == api.Four {
					want = num % (1 << 32)
				}
				for _, tail := range tails {
					b := cat(tail, put, tail)
					ahead, _ := tag.Put(no, wire)
					end := len(tail) + len(put)
					if got := next(b, len(tail), len(b)); !ok || got != is(no, wire, want, len(tail)+len(ahead), end) {
						t.Fatalf("field %d, wire type %d, %d, beside %v: %v", no, wire, num, tail, got)
					}
					if l, err := record.All(b, len(tail), end); err != api.OK || len(l) != 1 {
						t.Fatalf("field %d, wire type %d, %d: %v, %d", no, wire, num, l, err)
					}
				}
			}
		}
	}
}

// P5.4: what is put of bytes is one record with these, whatever stands behind, and ahead.
func TestRunsThatArePut(t *testing.T) {
	for _, long := range []int{0, 1, 2, 127, 128, 300, 16383, 16384} {
		run := make([]byte, long)
		for i := range run {
			run[i] = byte(251 - 37*i)
		}
		for _, tail := range [][]byte{nil, {0}, {128}, many(255, 12)} {
			put, ok := record.Put(api.Rec{No: 16, Wire: api.Run}, run)
			b := cat(tail, put, tail)
			end := len(tail) + len(put)
			got := next(b, len(tail), len(b))
			if !ok || got != is(16, api.Run, uint64(long), end-long, end) {
				t.Fatalf("%d bytes beside %v: %v", long, tail, got)
			}
			if !bytes.Equal(b[got.rec.From:got.rec.Upto], run) {
				t.Fatalf("%d bytes beside %v: other ones", long, tail)
			}
			if l, err := record.All(b, len(tail), end); err != api.OK || len(l) != 1 {
				t.Fatalf("%d bytes: %v, %d", long, l, err)
			}
		}
	}
}

// P5.4: records that are put one behind the other are told so: each begins where the one ahead ends, the first one at at.
func TestRecordsStandOneBehindTheOther(t *testing.T) {
	var b []byte
	var want []api.Rec
	b = append(b, 255, 255)
	for i, num := range numbers() {
		wire := []int{api.Var, api.Eight, api.Run, api.Four}[i%4]
		run := many(byte(i), int(num%200))
		r := api.Rec{No: i + 1, Wire: wire, Num: num}
		put, _ := record.Put(r, run)
		ahead, _ := tag.Put(i+1, wire)
		r.From, r.Upto = len(b)+len(ahead), len(b)+len(put)
		switch wire {
		case api.Four:
			r.Num %= 1 << 32
		case api.Run:
			r.Num, r.From = num%200, r.Upto-len(run)
		}
		b, want = append(b, put...), append(want, r)
	}
	l, err := record.All(b, 2, len(b))
	if err != api.OK || !slices.Equal(l, want) {
		t.Errorf("%v, %d, not %v", l, err, want)
	}
	place := 2
	for _, r := range l {
		if got := next(b, place, len(b)); got != (told{r, r.Upto, api.OK}) {
			t.Errorf("at %d: %v, not %v", place, got, r)
		}
		place = r.Upto
	}
	if place != len(b) {
		t.Errorf("all end at %d, not at %d", place, len(b))
	}
}

// R3: what is handed in stays.
func TestWhatIsHandedInStays(t *testing.T) {
	b := four()
	record.Next(b, 3, len(b))
	record.All(b, 0, len(b))
	if !bytes.Equal(b, four()) {
		t.Errorf("bytes are %v", b)
	}
	whole := []byte{1, 2, 3, 4, 5}
	for _, wire := range []int{api.Var, api.Eight, api.Run, api.Four, 3} {
		record.Put(api.Rec{No: 1, Wire: wire, Num: 300}, whole[:2])
	}
	if !bytes.Equal(whole, []byte{1, 2, 3, 4, 5}) {
		t.Errorf("a run, and what stands behind it, are %v", whole)
	}
}

// R3, R5: what is answered is the caller's own, and hangs on nothing that was asked before.
func TestAnswersAreTheCallersOwn(t *testing.T) {
	b := four()
	l, _ := record.All(b, 0, len(b))
	for i := range l {
		l[i] = api.Rec{No: 99}
	}
	clear(b)
	b = four()
	if second, _ := record.All(b, 0, len(b)); !slices.Equal(second, recsOfFour()) {
		t.Errorf("%v, behind a change of what was answered ahead", second)
	}
	for _, wire := range []int{api.Var, api.Eight, api.Run, api.Four} {
		run := []byte{7, 8, 9}
		r := api.Rec{No: 1, Wire: wire, Num: 300}
		first, _ := record.Put(r, run)
		was := slices.Clone(first)
		clear(run)
		if !bytes.Equal(first, was) {
			t.Errorf("wire type %d: a change of the run changes what was answered", wire)
		}
		run = []byte{7, 8, 9}
		for i := range first {
			first[i]++
		}
		if !bytes.Equal(run, []byte{7, 8, 9}) {
			t.Errorf("wire type %d: a change of what was answered changes the run", wire)
		}
		if second, _ := record.Put(r, run); !bytes.Equal(second, was) {
			t.Errorf("wire type %d: %v, behind a change of what was answered ahead, not %v", wire, second, was)
		}
	}
}

func ExampleNext() {
	fmt.Println(record.Next([]byte{8, 172, 2}, 0, 3))
	fmt.Println(record.Next([]byte{8, 172, 2}, 0, 2))
	// Output:
	// {1 0 300 1 3} 3 0
	// {0 0 0 0 0} 0 6
}

func ExampleAll() {
	fmt.Println(record.All([]byte{8, 5, 10, 2, 7, 7}, 0, 6))
	fmt.Println(record.All([]byte{8, 5, 10, 2, 7, 7}, 0, 5))
	// Output:
	// [{1 0 5 1 2} {1 2 2 4 6}] 0
	// [{1 0 5 1 2}] 6
}

func ExamplePut() {
	fmt.Println(record.Put(api.Rec{No: 1, Wire: api.Run}, []byte{7, 7}))
	fmt.Println(record.Put(api.Rec{No: 0, Wire: api.Run}, []byte{7, 7}))
	// Output:
	// [10 2 7 7] true
	// [] false
}
