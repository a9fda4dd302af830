package encode_test

import (
	"bytes"
	"fmt"
	"math"
	"slices"
	"strings"
	"testing"

	"truffle/api"
	"truffle/encode"
	"truffle/record"
	"truffle/table"
)

// P12.1: the schemas that most tests ask may be.
func TestSchemas(t *testing.T) {
	s := whole()
	if !table.May(s) || len(s.M) != msgs || !table.May(read(t, small)) {
		t.Fatalf("%+v", s)
	}
	for m, want := range []int{30, 27, 2, 0} {
		if len(s.M[m].F) != want {
			t.Errorf("message %d has %d fields", m, len(s.M[m].F))
		}
	}
}

// ff is so many bytes that are 255.
func ff(many int) []byte { return bytes.Repeat([]byte{255}, many) }

// P12.1: Value of each kind, of numbers at the ends of what fits too.
func TestValueExamples(t *testing.T) {
	s := whole()
	for _, c := range []struct {
		name     string
		kind, no int
		v        api.Val
		want     []byte
	}{
		{"a number", api.Int, 1, num(300), []byte{8, 172, 2}},
		{"a default number", api.Int, 1, num(0), []byte{8, 0}},
		{"a number below 0", api.Int, 2, num(-1), join([]byte{16}, ff(9), []byte{1})},
		{"the least number", api.Int, 1, num(math.MinInt64), join([]byte{8}, bytes.Repeat([]byte{128}, 9), []byte{1})},
		{"the greatest number", api.Int, 1, num(math.MaxInt64), join([]byte{8}, ff(8), []byte{127})},
		{"sint64", api.Sint, 1, num(-2), []byte{8, 3}},
		{"sint64 above 0", api.Sint, 1, num(2), []byte{8, 4}},
		{"sint64, default", api.Sint, 1, num(0), []byte{8, 0}},
		{"the least sint64", api.Sint, 1, num(math.MinInt64), join([]byte{8}, ff(9), []byte{1})},
		{"the greatest sint64", api.Sint, 1, num(math.MaxInt64), join([]byte{8, 254}, ff(8), []byte{1})},
		{"uint32", api.Uint, 1, num(127), []byte{8, 127}},
		{"the greatest uint32", api.Uint, 1, num(1<<32 - 1), []byte{8, 255, 255, 255, 255, 15}},
		{"no", api.Flag, 3, num(0), []byte{24, 0}},
		{"yes", api.Flag, 3, num(1), []byte{24, 1}},
		{"fixed32", api.Fix4, 1, num(258), []byte{13, 2, 1, 0, 0}},
		{"the greatest fixed32", api.Fix4, 1, num(1<<32 - 1), []byte{13, 255, 255, 255, 255}},
		{"sfixed64", api.Fix8, 1, num(258), []byte{9, 2, 1, 0, 0, 0, 0, 0, 0}},
		{"sfixed64 below 0", api.Fix8, 1, num(-2), join([]byte{9, 254}, ff(7))},
		{"the least sfixed64", api.Fix8, 1, num(math.MinInt64), []byte{9, 0, 0, 0, 0, 0, 0, 0, 128}},
		{"the greatest sfixed64", api.Fix8, 1, num(math.MaxInt64), join([]byte{9}, ff(7), []byte{127})},
		{"an enum's number", api.Enum, 1, num(7), []byte{8, 7}},
		{"an enum's number that has no name", api.Enum, 1, num(8), []byte{8, 8}},
		{"an enum's number below 0", api.Enum, 1, num(-1), join([]byte{8}, ff(9), []byte{1})},
		{"an enum's least number", api.Enum, 1, num(-1 << 31), []byte{8, 128, 128, 128, 128, 248, 255, 255, 255, 255, 1}},
		{"an enum's greatest number", api.Enum, 1, num(1<<31 - 1), []byte{8, 255, 255, 255, 255, 7}},
		{"a text", api.Text, 1, txt("é"), []byte{10, 2, 195, 169}},
		{"no text", api.Text, 1, txt(""), []byte{10, 0}},
		{"a long text", api.Text, 1, txt(strings.Repeat("a", 300)), join([]byte{10, 172, 2}, bytes.Repeat([]byte{'a'}, 300))},
		{"bytes", api.Raw, 1, txt("\xff\x00"), []byte{10, 2, 255, 0}},
		{"no bytes", api.Raw, 1, txt(""), []byte{10, 0}},
		{"a message", api.Sub, 1, in(slot(1, num(5))), []byte{10, 2, 8, 5}},
		{"a message without slots", api.Sub, 1, in(), []byte{10, 0}},
		{"a message that is not normal", api.Sub, 1, in(slot(api.MaxNo, txt("a")), slot(1, num(5))), join([]byte{10, 9, 8, 5}, str(api.MaxNo, "a"))},
		{"a message that gets empty", api.Sub, 1, in(slot(api.MaxNo, txt("")), slot(1, num(0))), []byte{10, 0}},
		{"the last number of one byte", api.Flag, 15, num(1), []byte{120, 1}},
		{"the first number of two bytes", api.Flag, 16, num(1), []byte{128, 1, 1}},
		{"a number that no field may have", api.Flag, 19500, num(1), vr(19500, 1)},
		{"the greatest number of a field", api.Flag, 1<<29 - 1, num(1), []byte{248, 255, 255, 255, 15, 1}},
		{"the greatest number of a text", api.Text, 1<<29 - 1, txt("a"), []byte{250, 255, 255, 255, 15, 1, 'a'}},
	} {
		b, err := encode.Value(s, c.kind, few, c.no, c.v)
		if err != api.OK || !bytes.Equal(b, c.want) {
			t.Errorf("%s: %v, %d, not %v", c.name, b, err, c.want)
		}
		holdValue(t, s, c.kind, few, c.no, c.v)
	}
}

// P12.1: Value of each kind as one record, that has that number (or these bytes), at numbers of fields that just may be.
func TestValueIsRecord(t *testing.T) {
	s := whole()
	for kind := range api.Kinds {
		v := num(1)
		switch kind {
		case api.Text, api.Raw:
			v = txt("held")
		case api.Sub:
			v = in(slot(1, num(1)))
		}
		for _, no := range []int{1, 2, 15, 16, 2047, 2048, 18999, 19000, 19999, 1 << 28, 1<<29 - 2, 1<<29 - 1} {
			b, err := encode.Value(s, kind, few, no, v)
			r, end, wrong := record.Next(b, 0, len(b))
			if err != api.OK || wrong != api.OK || end != len(b) || r.No != no || r.Wire != wireOf[kind] {
				t.Errorf("kind %d, number %d: %x, %d", kind, no, b, err)
			}
			holdValue(t, s, kind, few, no, v)
		}
	}
}

// P12.1: numbers of fields that may not be, of each kind.
func TestValueNumbers(t *testing.T) {
	s := whole()
	for _, no := range []int{math.MinInt, -1 << 32, 1 - 1<<32, -1 << 29, -2, -1, 0, 1 << 29, 1<<29 + 1, 1 << 31, 1 << 32, 1<<32 + 1, 1 << 61, 1<<61 + 1, math.MaxInt} {
		for kind := range api.Kinds {
			v := api.Val{}
			if kind == api.Sub {
				v = in()
			}
			if b, err := encode.Value(s, kind, few, no, v); err != api.ErrArg || len(b) > 0 {
				t.Errorf("kind %d, number %d: %x, %d", kind, no, b, err)
			}
			holdValue(t, s, kind, few, no, v)
			holdValue(t, s, kind, few, 1, v)
		}
	}
}

// somePossible are values of numbers, texts and messages at all edges, together.
func somePossible() []api.Val {
	numbers := []int64{0, 1, 2, -1, 127, 128, 1<<31 - 1, 1 << 31, -1 << 31, -1<<31 - 1, 1<<32 - 1, 1 << 32, math.MinInt64, math.MaxInt64}
	texts := []string{"", "a", "é", "\xff", "a\xed\xa0\x80"}
	five, maxNo := slot(1, num(5)), slot(api.MaxNo, txt("z"))
	lists := [][]api.Msg{
		nil, {}, {msg()}, {msg(), msg()}, {msg(five)}, {msg(maxNo, five)}, {msg(five, five)}, {msg(slot(1, txt("a")))}, {msg(slot(1))},
		{msg(pairs(byKey, nums(1), vals(in(five))))}, {msg(slot(api.Text+alone, txt("\xff")))}, {msg(), msg(slot(31))}, {msg(slot(1, num(0)))},
	}
	var out []api.Val
	for _, n := range numbers {
		for _, s := range texts {
			for _, l := range lists {
				out = append(out, api.Val{N: n, S: s, M: l})
			}
		}
	}
	return out
}

// P12.1: Value of values at all edges, of each kind, and of what is none: with a number, a text, or messages that a kind does not have.
func TestValueAll(t *testing.T) {
	s := whole()
	for kind := -2; kind <= api.Kinds+1; kind++ {
		for _, v := range somePossible() {
			for _, ref := range []int{forms, few} {
				for _, no := range []int{0, 1, 16, 1<<29 - 1, 1 << 29} {
					holdValue(t, s, kind, ref, no, v)
				}
			}
		}
	}
	for _, kind := range []int{math.MinInt, -1 << 32, -1, api.Kinds, 1 << 32, math.MaxInt} {
		for _, v := range []api.Val{{}, num(1), txt("a"), in()} {
			if b, err := encode.Value(s, kind, few, 1, v); err != api.ErrArg || len(b) > 0 {
				t.Errorf("kind %d, %s: %x, %d", kind, valsText(vals(v)), b, err)
			}
		}
	}
}

// P12.1: Value of a Sub asks for the message ref, that there must be; of other kinds ref does not matter.
func TestValueRef(t *testing.T) {
	s := whole()
	for _, ref := range []int{math.MinInt, -1 << 32, -5, -1, forms, maps, few, none, msgs, msgs + 1, 20, 1 << 32, math.MaxInt} {
		b, err := encode.Value(s, api.Sub, ref, 1, in())
		if is := ref >= 0 && ref < msgs; is != (err == api.OK) || is != (len(b) == 2) {
			t.Errorf("Sub of message %d: %x, %d", ref, b, err)
		}
		for kind := range api.Kinds {
			for i, v := range somePossible() {
				if i%3 == kind%3 {
					holdValue(t, s, kind, ref, 2, v)
				}
			}
		}
	}
}

// P12.1, P12.2: of a schema that may not be nothing is told.
func TestWrongSchemas(t *testing.T) {
	wrong := []api.Schema{{}, {M: []api.MsgDef{}}, {E: whole().E}, {M: make([]api.MsgDef, 2)}}
	for _, do := range []func(s *api.Schema){
		func(s *api.Schema) { s.M[none].Name = "Few" },
		func(s *api.Schema) { s.M[none].Name = "int64" },
		func(s *api.Schema) { s.E[1].N[0] = 1 },
		func(s *api.Schema) { s.E = s.E[:1] },
		func(s *api.Schema) { s.M[few].F[1].No = api.MaxNo + 1 },
		func(s *api.Schema) { s.M[few].F[1].No = 19500 },
		func(s *api.Schema) { s.M[few].F[1].Kind = api.Kinds },
		func(s *api.Schema) { s.M[forms].F[api.Sub].Ref = msgs },
		func(s *api.Schema) { s.M[few].F[1].Key = api.Raw },
		func(s *api.Schema) { s.M[few].F[1].One, s.M[few].F[1].Rep = 1, true },
		func(s *api.Schema) { slices.Reverse(s.M[few].F) },
		func(s *api.Schema) { s.M = append(s.M, make([]api.MsgDef, 17)...) },
	} {
		s := whole()
		do(&s)
		wrong = append(wrong, s)
	}
	for i, s := range wrong {
		for m := -1; m <= len(s.M); m++ {
			for _, x := range []api.Msg{msg(), msg(slot(1, num(5)))} {
				b, err := encode.Encode(s, m, x)
				if err != api.ErrArg || len(b) > 0 {
					t.Errorf("schema %d, message %d, %s: %x, %d", i, m, text(x), b, err)
				}
				b, err = encode.Value(s, api.Sub, m, 1, sub(x))
				if err != api.ErrArg || len(b) > 0 {
					t.Errorf("schema %d, a value of message %d, %s: %x, %d", i, m, text(x), b, err)
				}
			}
		}
		for kind := range api.Kinds {
			if b, err := encode.Value(s, kind, 0, 1, api.Val{}); err != api.ErrArg || len(b) > 0 {
				t.Errorf("schema %d, kind %d: %x, %d", i, kind, b, err)
			}
		}
	}
}

// arounds are all ways in which a message of schema small may stand in another one, alone, ahead of others and behind them.
func arounds() []func(x api.Msg) api.Msg {
	shallow := in()
	return []func(x api.Msg) api.Msg{
		func(x api.Msg) api.Msg { return msg(slot(4, sub(x))) },
		func(x api.Msg) api.Msg { return msg(slot(7, sub(x))) },
		func(x api.Msg) api.Msg { return msg(slot(11, sub(x))) },
		func(x api.Msg) api.Msg { return msg(slot(11, shallow, sub(x), shallow)) },
		func(x api.Msg) api.Msg { return msg(pairs(5, txts("k"), vals(sub(x)))) },
		func(x api.Msg) api.Msg { return msg(pairs(5, txts("b", "a"), vals(shallow, sub(x)))) },
		func(x api.Msg) api.Msg { return msg(pairs(5, txts("k", "k"), vals(sub(x), shallow))) },
		func(x api.Msg) api.Msg { return msg(slot(11, shallow), slot(4, sub(x)), slot(7, shallow)) },
		func(x api.Msg) api.Msg { return msg(slot(16, num(1)), slot(4, sub(x)), slot(1, num(0)), slot(2)) },
	}
}

// P12.1, P12.2: messages that are 63, 64 and 65 deep, values that are 62, 63 and 64 deep, and others.
func TestDeep(t *testing.T) {
	s := read(t, small)
	for i, around := range arounds() {
		for _, deep := range []int{1, 2, 3, 61, 62, 63, 64, 65, 66, 128, 129} {
			x := nest(deep, msg(slot(1, num(1))), around)
			if _, err := encode.Encode(s, 0, x); (err == api.OK) != (deep <= 64) {
				t.Errorf("%d: Encode of %d deep: %d", i, deep, err)
			}
			if _, err := encode.Value(s, api.Sub, 0, 1, sub(x)); (err == api.OK) != (deep <= 63) {
				t.Errorf("%d: Value of %d deep: %d", i, deep, err)
			}
			hold(t, s, 0, x)
			holdValue(t, s, api.Sub, 0, 5, sub(x))
			wrong := nest(deep, msg(slot(99)), around)
			if b, err := encode.Encode(s, 0, wrong); err != api.ErrArg || len(b) > 0 {
				t.Errorf("%d: Encode of %d deep, the last one wrong: %d", i, deep, err)
			}
		}
	}
}

// P12.1, P12.2: Value of a Sub holds the bytes that Encode tells.
func TestValueAsEncode(t *testing.T) {
	s := read(t, small)
	for i, around := range arounds() {
		for _, deep := range []int{1, 2, 5} {
			for j, last := range []api.Msg{msg(), msg(slot(2, nums(1, 2)...)), msg(slot(16, num(0)), slot(3, txt("t"))), msg(slot(1, txt("a")))} {
				x := nest(deep, last, around)
				all, err := encode.Encode(s, 0, x)
				b, other := encode.Value(s, api.Sub, 0, 3, sub(x))
				if err != other || err == api.OK && !bytes.Equal(b, run(3, all)) {
					t.Errorf("%d, %d: %x, %d, and %x, %d", i, j, all, err, b, other)
				}
			}
		}
	}
}

// P12.1, R3, R5: later changes to what is told change nothing of what is told again.
func TestValueStays(t *testing.T) {
	s := whole()
	for _, v := range []api.Val{num(5), txt("text"), in(slot(api.MaxNo, txt("text")), slot(1, num(5)))} {
		for kind := range api.Kinds {
			b, err := encode.Value(s, kind, few, 1, v)
			was, again := fmt.Sprint(b, err), ""
			for i := range b[:cap(b)] {
				b[:cap(b)][i] ^= 255
			}
			b, err = encode.Value(s, kind, few, 1, v)
			again = fmt.Sprint(b, err)
			if again != was {
				t.Errorf("kind %d: %s, and then %s", kind, was, again)
			}
		}
	}
}
