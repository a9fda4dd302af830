package encode_test

import (
	"bytes"
	"math"
	"testing"

	"truffle/api"
	"truffle/encode"
)

// P12.2: the chapter's example: message A { int64 a = 1; } with a 7: 8, 7.
func TestChapterExample(t *testing.T) {
	s := read(t, "message A { int64 a = 1; }")
	b, err := encode.Encode(s, 0, msg(slot(1, num(7))))
	if err != api.OK || !bytes.Equal(b, []byte{8, 7}) {
		t.Errorf("%v, %d", b, err)
	}
}

// P12.2: messages, and their bytes.
func TestEncodeExamples(t *testing.T) {
	s := read(t, small)
	one := in(slot(1, num(1)))
	for _, c := range []struct {
		name string
		x    api.Msg
		want []byte
	}{
		{"nothing", msg(), nil},
		{"no slots", api.Msg{F: []api.Slot{}}, nil},
		{"a number", msg(slot(1, num(300))), []byte{8, 172, 2}},
		{"a number below 0", msg(slot(1, num(-1))), vr(1, math.MaxUint64)},
		{"a default number", msg(slot(1, num(0))), nil},
		{"a text", msg(slot(3, txt("é"))), str(3, "é")},
		{"a default text", msg(slot(3, txt(""))), nil},
		{"bytes that are no text", msg(slot(15, txt("\xff\x00"))), str(15, "\xff\x00")},
		{"fixed ones", msg(slot(12, num(258)), slot(13, num(-2))), join(four(12, 258), eight(13, math.MaxUint64-1))},
		{"default fixed ones", msg(slot(12, num(0)), slot(13, num(0))), nil},
		{"an enum", msg(slot(16, num(5))), vr(16, 5)},
		{"an enum below 0", msg(slot(16, num(-2))), vr(16, math.MaxUint64-1)},
		{"a default enum", msg(slot(16, num(0))), nil},
		{"slots in another order", msg(slot(16, num(5)), slot(1, num(2)), slot(12, num(3)), slot(3, txt("t"))), join(vr(1, 2), str(3, "t"), four(12, 3), vr(16, 5))},
		{"what goes without saying among others", msg(slot(16, num(5)), slot(1, num(0)), slot(2), slot(3, txt("")), slot(11), slot(10)), vr(16, 5)},

		{"repeated ones", msg(slot(2, nums(-2, 150, 0)...)), run(2, uv(3), uv(300), uv(0))},
		{"one, repeated", msg(slot(2, num(1))), []byte{18, 1, 2}},
		{"one that is default, repeated", msg(slot(2, num(0))), []byte{18, 1, 0}},
		{"none, repeated", msg(slot(2)), nil},
		{"repeated ones, their order stays", msg(slot(2, nums(3, 1, 2, 1)...)), []byte{18, 4, 6, 2, 4, 2}},
		{"repeated fixed ones", msg(slot(14, nums(1, 258)...)), []byte{114, 8, 1, 0, 0, 0, 2, 1, 0, 0}},
		{"repeated texts", msg(slot(9, txts("x", "", "x")...)), join(str(9, "x"), str(9, ""), str(9, "x"))},
		{"one repeated text that is default", msg(slot(9, txt(""))), str(9, "")},
		{"repeated messages", msg(slot(11, one, in(), one)), join(run(11, vr(1, 1)), run(11), run(11, vr(1, 1)))},

		{"a default number in a oneof", msg(slot(18, num(0))), vr(18, 0)},
		{"a default flag in a oneof", msg(slot(6, num(0))), []byte{48, 0}},
		{"a default text in a oneof", msg(slot(8, txt(""))), str(8, "")},
		{"an empty message in a oneof", msg(slot(7, in())), run(7)},
		{"a number in a oneof", msg(slot(19, num(300))), vr(19, 300)},
		{"one of each oneof", msg(slot(19, num(1)), slot(8, txt("w"))), join(str(8, "w"), vr(19, 1))},

		{"a message", msg(slot(4, one)), []byte{34, 2, 8, 1}},
		{"an empty message", msg(slot(4, in())), []byte{34, 0}},
		{"a message that gets empty", msg(slot(4, in(slot(1, num(0)), slot(2)))), []byte{34, 0}},
		{"a message in another order", msg(slot(4, in(slot(3, txt("t")), slot(1, num(1))))), run(4, vr(1, 1), str(3, "t"))},
		{"messages inside messages", msg(slot(16, num(1)), slot(4, in(slot(4, in(slot(4, one), slot(2, num(1))))))), join(run(4, run(4, run(2, uv(2)), run(4, vr(1, 1)))), vr(16, 1))},
		{"a message of another message", msg(slot(20, in(slot(2, one), slot(1, txt("\xff"))))), run(20, str(1, "\xff"), run(2, vr(1, 1)))},

		{"a map", msg(pairs(10, nums(1), nums(5))), entry(10, vr(1, 1), vr(2, 5))},
		{"a map without entries", msg(slot(10)), nil},
		{"a default key, and value", msg(pairs(10, nums(0), nums(0))), []byte{82, 4, 8, 0, 16, 0}},
		{"keys in another order", msg(pairs(10, nums(3, 1, -2), nums(0, 5, 7))), join(entry(10, vr(1, math.MaxUint64-1), vr(2, 7)), entry(10, vr(1, 1), vr(2, 5)), entry(10, vr(1, 3), vr(2, 0)))},
		{"a key twice", msg(pairs(10, nums(1, 2, 1), nums(5, 6, 7))), join(entry(10, vr(1, 1), vr(2, 7)), entry(10, vr(1, 2), vr(2, 6)))},
		{"a key twice, the last one default", msg(pairs(10, nums(1, 1), nums(5, 0))), entry(10, vr(1, 1), vr(2, 0))},
		{"keys that are texts", msg(pairs(5, txts("é", "b", "ab", ""), vals(one, in(), one, in()))), join(entry(5, str(1, ""), run(2)), entry(5, str(1, "ab"), run(2, vr(1, 1))), entry(5, str(1, "b"), run(2)), entry(5, str(1, "é"), run(2, vr(1, 1))))},
		{"keys that are flags", msg(pairs(17, nums(1, 0), txts("", "no"))), join(entry(17, vr(1, 0), str(2, "no")), entry(17, vr(1, 1), str(2, "")))},
		{"a map of messages that get empty", msg(pairs(5, txts("k"), vals(in(slot(1, num(0)))))), entry(5, str(1, "k"), run(2))},
		{"maps in maps", msg(pairs(5, txts("k"), vals(in(pairs(5, txts("z", "y", "z"), vals(in(), one, one)))))), entry(5, str(1, "k"), run(2, entry(5, str(1, "y"), run(2, vr(1, 1))), entry(5, str(1, "z"), run(2, vr(1, 1)))))},
	} {
		b, err := encode.Encode(s, 0, c.x)
		if err != api.OK || !bytes.Equal(b, c.want) {
			t.Errorf("%s: %x, %d, not %x", c.name, b, err, c.want)
		}
		hold(t, s, 0, c.x)
	}
}

// P12.2: messages that are not of their message, each for one reason.
func TestEncodeWrong(t *testing.T) {
	s := read(t, small)
	one, other := in(slot(1, num(1))), in(slot(30))
	for _, c := range []struct {
		name string
		x    api.Msg
	}{
		{"no field's", msg(slot(30))},
		{"no field's: 0", msg(slot(0, num(1)))},
		{"no field's: below 0", msg(slot(-1, num(1)))},
		{"no field's, beyond 32 bits", msg(slot(1+1<<32, num(1)))},
		{"no field's, behind others", msg(slot(1, num(1)), slot(2), slot(30, num(1)))},
		{"none of one", msg(slot(1))},
		{"two of one", msg(slot(1, num(1), num(1)))},
		{"two slots of one number", msg(slot(1, num(1)), slot(1, num(1)))},
		{"two slots of one number, repeated", msg(slot(2, num(1)), slot(2, num(1)))},
		{"two in one oneof", msg(slot(6, num(1)), slot(8, txt("w")))},
		{"two in one oneof, default", msg(slot(18, num(0)), slot(19, num(0)))},
		{"a text where a number stands", msg(slot(1, txt("a")))},
		{"a number where a text stands", msg(slot(3, num(1)))},
		{"a message where a number stands", msg(slot(1, one))},
		{"a number where a message stands", msg(slot(4, num(1)))},
		{"no message where one stands", msg(slot(4, api.Val{}))},
		{"two messages where one stands", msg(slot(4, sub(msg(), msg())))},
		{"a number beside a message", msg(slot(4, api.Val{N: 1, M: one.M}))},
		{"a text that is no UTF-8", msg(slot(3, txt("\xff")))},
		{"beyond 32 bits", msg(slot(12, num(1<<32)))},
		{"below 0", msg(slot(12, num(-1)))},
		{"an enum beyond 32 bits", msg(slot(16, num(1<<31)))},
		{"a flag that is none", msg(slot(6, num(2)))},
		{"the last one, repeated, is wrong", msg(slot(14, nums(1, 2, -1)...))},
		{"the first one, repeated, is wrong", msg(slot(9, txts("\xff", "a")...))},
		{"a message, repeated, is wrong", msg(slot(11, one, other))},
		{"keys of what is no map", msg(pairs(1, nums(1), nums(1)))},
		{"keys of what is repeated", msg(pairs(2, nums(1), nums(1)))},
		{"fewer keys", msg(pairs(10, nums(1), nums(1, 2)))},
		{"more keys", msg(pairs(10, nums(1, 2), nums(1)))},
		{"a key that is wrong", msg(pairs(17, nums(2), txts("a")))},
		{"a key that is no UTF-8", msg(pairs(5, txts("\xff"), vals(one)))},
		{"a map's value is wrong, of a key that stands again", msg(pairs(5, txts("k", "k"), vals(other, one)))},
		{"a message within is wrong", msg(slot(4, in(slot(4, other))))},
		{"a message within is another's", msg(slot(20, in(slot(3, txt("t")))))},
		{"a default one within is wrong", msg(slot(4, in(slot(1))))},
	} {
		if b, err := encode.Encode(s, 0, c.x); err != api.ErrArg || len(b) > 0 {
			t.Errorf("%s: %x, %d", c.name, b, err)
		}
		hold(t, s, 0, c.x)
		if b, err := encode.Value(s, api.Sub, 0, 1, sub(c.x)); err != api.ErrArg || len(b) > 0 {
			t.Errorf("%s: Value is %x, %d", c.name, b, err)
		}
	}
}

// P12.2: messages that are not there.
func TestEncodeMessages(t *testing.T) {
	s := whole()
	for _, m := range []int{math.MinInt, -1 << 32, -msgs, -2, -1, msgs, msgs + 1, 20, 1 << 32, math.MaxInt} {
		for _, x := range []api.Msg{msg(), msg(slot(1, num(1)))} {
			if b, err := encode.Encode(s, m, x); err != api.ErrArg || len(b) > 0 {
				t.Errorf("message %d: %x, %d", m, b, err)
			}
		}
	}
	for m := range msgs {
		if b, err := encode.Encode(s, m, msg()); err != api.OK || len(b) > 0 {
			t.Errorf("message %d: %x, %d", m, b, err)
		}
	}
}

// someOfKind are values of a kind: the first one is default.
func someOfKind(kind int) []api.Val {
	least, greatest := limits(kind)
	switch kind {
	case api.Text:
		return txts("", "a", "é", "long enough")
	case api.Raw:
		return txts("", "\xff", "\x00\x00")
	case api.Sub:
		return vals(in(), in(slot(1, num(1))), in(slot(api.MaxNo, txt("z")), slot(1, num(0))))
	}
	return nums(0, 1, least, greatest, greatest-1)
}

// referTo is a schema whose fields that are messages are all of message few.
func referTo() api.Schema {
	s := whole()
	for m := range s.M {
		for i := range s.M[m].F {
			if f := &s.M[m].F[i]; f.Kind == api.Sub {
				f.Ref = few
			}
		}
	}
	return s
}

// P12.2: each field of each form, of each kind: one value, two and three of each, also default ones.
func TestEncodeForms(t *testing.T) {
	s := referTo()
	for m := range s.M {
		for _, f := range s.M[m].F {
			values := someOfKind(f.Kind)
			keys := vals(api.Val{}, api.Val{}, api.Val{})
			if f.Key != api.NoKey {
				keys = someOfKind(f.Key)
			}
			for _, a := range values {
				hold(t, s, m, msg(slot(f.No, a)))
				for i, k := range keys {
					b := values[i%len(values)]
					hold(t, s, m, msg(pairs(f.No, vals(k), vals(a))))
					hold(t, s, m, msg(pairs(f.No, vals(k, keys[0]), vals(a, b))))
					hold(t, s, m, msg(pairs(f.No, vals(k, keys[1], k), vals(a, b, values[0]))))
					hold(t, s, m, msg(slot(f.No, a, b)))
					hold(t, s, m, msg(slot(f.No, b, a, a)))
				}
			}
		}
	}
}

// P12.2: of each kind, repeated: one record in all of what counts, and one for each of what doesn't.
func TestEncodeRepeated(t *testing.T) {
	s := referTo()
	for kind := range api.Kinds {
		values := someOfKind(kind)
		b, err := encode.Encode(s, forms, msg(slot(repeated+kind, values...)))
		var alone, within []byte
		for _, v := range values {
			one, err := encode.Value(s, kind, few, repeated+kind, v)
			if err != api.OK {
				t.Fatalf("kind %d: %d", kind, err)
			}
			alone = join(alone, one)
			within = join(within, one[len(head(repeated+kind, wireOf[kind])):])
		}
		want := alone
		if kind <= api.Enum {
			want = run(repeated+kind, within)
		}
		if err != api.OK || !bytes.Equal(b, want) {
			t.Errorf("kind %d: %x, %d, not %x", kind, b, err, want)
		}
	}
}

// P12.2: each default value alone: that of a field that is neither repeated, nor a map, nor in a oneof, nor a Sub, has no bytes.
func TestEncodeDefaults(t *testing.T) {
	s := referTo()
	for m := range s.M {
		for _, f := range s.M[m].F {
			x := msg(slot(f.No, someOfKind(f.Kind)[0]))
			if f.Key != api.NoKey {
				x.F[0].K = vals(someOfKind(f.Key)[0])
			}
			b, err := encode.Encode(s, m, x)
			stays := f.Rep || f.Key != api.NoKey || f.One != 0 || f.Kind == api.Sub
			if err != api.OK || len(b) > 0 != stays {
				t.Errorf("field %d of message %d: %x, %d", f.No, m, b, err)
			}
		}
	}
}

// P12.2: very many values: how long a Run is, is told by as many bytes as it needs.
func TestEncodeMany(t *testing.T) {
	s := read(t, small)
	for _, many := range []int{1, 31, 32, 63, 64, 126, 127, 128, 129, 4095, 4096, 16383, 16384, 16385} {
		fixed, counted := make([]api.Val, many), make([]api.Val, many)
		for i := range many {
			fixed[i].N = int64(i)
		}
		hold(t, s, 0, msg(slot(14, fixed...), slot(2, counted...)))
		hold(t, s, 0, msg(slot(4, in(slot(2, counted...)))))
		b, err := encode.Encode(s, 0, msg(slot(2, counted...)))
		if err != api.OK || !bytes.Equal(b, run(2, make([]byte, many))) {
			t.Errorf("%d: %d bytes, %d", many, len(b), err)
		}
	}
}
