package decode_test

import (
	"math"
	"slices"
	"strings"
	"testing"

	"truffle/api"
	"truffle/decode"
	"truffle/table"
	"truffle/typed"
)

// P11.2: the schemas that most tests ask may be.
func TestSchemas(t *testing.T) {
	s := whole()
	if !table.May(s) || len(s.M) != msgs || !table.May(read(t, small)) {
		t.Fatalf("%+v", s)
	}
	for m, want := range []int{30, 27, 2, 0} {
		if len(s.M[m].F) != want {
			t.Errorf("message %d has %d fields", m, len(s.M[m].F))
		}
	}
}

// P11.2: the chapter's example: 8, 5, 8, 7 of message A { int64 a = 1; }: a is 7.
func TestChapterExample(t *testing.T) {
	s := read(t, "message A { int64 a = 1; }")
	x, err := decode.Decode(s, 0, []byte{8, 5, 8, 7})
	if err != api.OK || text(x) != text(msg(slot(1, num(7)))) {
		t.Errorf("%s, %d", text(x), err)
	}
}

// P11.2: bytes that are messages.
func TestDecodeExamples(t *testing.T) {
	s := read(t, small)
	for _, c := range []struct {
		name string
		b    []byte
		want api.Msg
	}{
		{"nothing", nil, msg()},
		{"no bytes", []byte{}, msg()},
		{"a number", vr(1, 5), msg(slot(1, num(5)))},
		{"a number below 0", vr(1, math.MaxUint64), msg(slot(1, num(-1)))},
		{"a number in more bytes than it needs", join(head(1, api.Var), long(5, 10)), msg(slot(1, num(5)))},
		{"a tag in more bytes than it needs", join(long(8, 10), uv(5)), msg(slot(1, num(5)))},
		{"a number twice", join(vr(1, 5), vr(1, 7)), msg(slot(1, num(7)))},
		{"a number, and its default", join(vr(1, 5), vr(1, 0)), msg()},
		{"a default number", vr(1, 0), msg()},
		{"a number twice, others between", join(vr(1, 5), str(3, "t"), vr(16, 5), vr(1, 7)), msg(slot(1, num(7)), slot(3, txt("t")), slot(16, num(5)))},
		{"an enum that has no such name", vr(16, 77), msg(slot(16, num(77)))},
		{"an enum below 0", vr(16, math.MaxUint64), msg(slot(16, num(-1)))},
		{"an enum of more bits", vr(16, 1<<32+5), msg(slot(16, num(5)))},
		{"an enum of more bits that is default", vr(16, 1<<32), msg()},
		{"fixed ones", join(four(12, 1<<32-1), eight(13, math.MaxUint64)), msg(slot(12, num(1<<32-1)), slot(13, num(-1)))},
		{"fixed ones twice", join(four(12, 5), four(12, 6), eight(13, 7), eight(13, 8)), msg(slot(12, num(6)), slot(13, num(8)))},
		{"a text", str(3, "é"), msg(slot(3, txt("é")))},
		{"a text twice", join(str(3, "long"), str(3, "s")), msg(slot(3, txt("s")))},
		{"a text, and none", join(str(3, "long"), str(3, "")), msg()},
		{"bytes that are no text", str(15, "\xff\x00"), msg(slot(15, txt("\xff\x00")))},
		{"bytes twice", join(str(15, "\xff"), str(15, "\x80")), msg(slot(15, txt("\x80")))},
		{"fields from behind", join(vr(16, 1), str(15, "b"), str(3, "t"), vr(1, 2)), msg(slot(1, num(2)), slot(3, txt("t")), slot(15, txt("b")), slot(16, num(1)))},

		{"repeated ones", join(vr(2, 1), vr(2, 2)), msg(slot(2, nums(-1, 1)...))},
		{"one that is default, repeated", vr(2, 0), msg(slot(2, num(0)))},
		{"a Run without numbers", run(2), msg()},
		{"a Run of one", run(2, uv(3)), msg(slot(2, num(-2)))},
		{"a Run of several", run(2, uv(3), uv(300), uv(0)), msg(slot(2, nums(-2, 150, 0)...))},
		{"Runs beside single ones", join(vr(2, 2), run(2, uv(4), uv(6)), run(2), vr(2, 8), run(2, uv(10))), msg(slot(2, nums(1, 2, 3, 4, 5)...))},
		{"others between", join(run(2, uv(4)), vr(1, 1), vr(2, 6), str(3, "t"), run(2, uv(8))), msg(slot(1, num(1)), slot(2, nums(2, 3, 4)...), slot(3, txt("t")))},
		{"Runs of fixed ones beside single ones", join(run(14, []byte{1, 0, 0, 0, 2, 0, 0, 0}), four(14, 3), run(14)), msg(slot(14, nums(1, 2, 3)...))},
		{"texts, repeated", join(str(9, "b"), str(9, ""), str(9, "a"), str(9, "b")), msg(slot(9, txts("b", "", "a", "b")...))},
		{"messages, repeated", join(run(11, vr(1, 1)), run(11), run(11, vr(1, 2), vr(2, 2))), msg(slot(11, sub(slot(1, num(1))), sub(), sub(slot(1, num(2)), slot(2, num(1)))))},

		{"a message", run(4, vr(1, 5)), msg(slot(4, sub(slot(1, num(5)))))},
		{"an empty message", run(4), msg(slot(4, sub()))},
		{"a message of defaults", run(4, vr(1, 0), str(3, ""), run(2)), msg(slot(4, sub()))},
		{"a message twice", join(run(4, vr(1, 5), vr(2, 2)), run(4, vr(1, 7), vr(2, 4))), msg(slot(4, sub(slot(1, num(7)), slot(2, nums(1, 2)...))))},
		{"a message, and an empty one", join(run(4, vr(1, 5)), run(4)), msg(slot(4, sub(slot(1, num(5)))))},
		{"an empty message, and one", join(run(4), run(4, vr(1, 5))), msg(slot(4, sub(slot(1, num(5)))))},
		{"a message whose number gets default", join(run(4, vr(1, 5), vr(16, 1)), run(4, vr(1, 0))), msg(slot(4, sub(slot(16, num(1)))))},
		{"a message within one, twice", join(run(4, run(4, vr(1, 5))), vr(1, 1), run(4, run(4, vr(16, 2)), run(4, vr(2, 2)))), msg(slot(1, num(1)), slot(4, sub(slot(4, sub(slot(1, num(5)), slot(2, num(1)), slot(16, num(2)))))))},
		{"a message of another message", run(20, str(1, "\xff"), run(2, vr(1, 5))), msg(slot(20, sub(slot(1, txt("\xff")), slot(2, sub(slot(1, num(5)))))))},
		{"maps in a message, twice", join(run(4, entry(5, str(1, "k"), run(2, vr(1, 1)))), run(4, entry(5, str(1, "k"), run(2, vr(2, 2))))), msg(slot(4, sub(pairs(5, txts("k"), vals(sub(slot(2, num(1))))))))},

		{"a default number in a oneof", vr(6, 0), msg(slot(6, num(0)))},
		{"an empty text in a oneof", str(8, ""), msg(slot(8, txt("")))},
		{"a number twice in a oneof", join(vr(6, 1), vr(6, 0)), msg(slot(6, num(0)))},
		{"a oneof, a message behind a number", join(vr(6, 1), run(7)), msg(slot(7, sub()))},
		{"a oneof, a number behind a message", join(run(7, vr(1, 1)), vr(6, 5)), msg(slot(6, num(1)))},
		{"a oneof, a text behind both", join(run(7), vr(6, 1), str(8, "w")), msg(slot(8, txt("w")))},
		{"a oneof, a message twice", join(run(7, vr(1, 1)), run(7, vr(2, 2))), msg(slot(7, sub(slot(1, num(1)), slot(2, num(1)))))},
		{"a oneof, a message twice, another one between", join(run(7, vr(1, 1)), vr(6, 1), run(7, vr(2, 2))), msg(slot(7, sub(slot(2, num(1)))))},
		{"a oneof, others between", join(run(7, vr(1, 1)), vr(1, 3), str(99, "u"), vr(18, 2), run(7, vr(2, 2))), msg(slot(1, num(3)), slot(7, sub(slot(1, num(1)), slot(2, num(1)))), slot(18, num(2)))},
		{"two oneofs", join(vr(18, 5), str(8, "w"), vr(19, 0), vr(6, 2)), msg(slot(6, num(1)), slot(19, num(0)))},
		{"a oneof within a message that is taken twice", join(run(4, vr(6, 1)), run(4, str(8, "w"))), msg(slot(4, sub(slot(8, txt("w")))))},
		{"a oneof around a message's", join(run(7, vr(6, 1)), run(7, str(8, "w"), vr(18, 1)), vr(19, 4)), msg(slot(7, sub(slot(8, txt("w")), slot(18, num(1)))), slot(19, num(4)))},

		{"an entry", entry(10, vr(1, 1), vr(2, 9)), msg(pairs(10, nums(1), nums(9)))},
		{"an entry, its value ahead", entry(10, vr(2, 9), vr(1, 1)), msg(pairs(10, nums(1), nums(9)))},
		{"an entry without key", entry(10, vr(2, 9)), msg(pairs(10, nums(0), nums(9)))},
		{"an entry without value", entry(10, vr(1, 1)), msg(pairs(10, nums(1), nums(0)))},
		{"an empty entry", entry(10), msg(pairs(10, nums(0), nums(0)))},
		{"an empty entry of texts", entry(17), msg(pairs(17, nums(0), txts("")))},
		{"an empty entry of messages", entry(5), msg(pairs(5, txts(""), vals(sub())))},
		{"both twice", entry(10, vr(1, 1), vr(2, 9), vr(2, 8), vr(1, 2)), msg(pairs(10, nums(2), nums(8)))},
		{"both twice, the last ones default", entry(10, vr(1, 1), vr(2, 9), vr(2, 0), vr(1, 0)), msg(pairs(10, nums(0), nums(0)))},
		{"other numbers, of all wire types", entry(10, vr(3, 1), vr(1, 1), four(3, 1), eight(20, 1), str(99, "\xff"), vr(2, 9), vr(api.MaxNo, 5)), msg(pairs(10, nums(1), nums(9)))},
		{"one key twice", join(entry(10, vr(1, 1), vr(2, 9)), entry(10, vr(1, 1), vr(2, 8))), msg(pairs(10, nums(1), nums(8)))},
		{"one key twice, the last one without value", join(entry(10, vr(1, 1), vr(2, 9)), entry(10, vr(1, 1))), msg(pairs(10, nums(1), nums(0)))},
		{"keys falling, one twice", join(entry(10, vr(1, 5), vr(2, 1)), entry(10, vr(1, math.MaxUint64), vr(2, 2)), vr(1, 7), entry(10, vr(1, 5), vr(2, 3)), entry(10)), msg(slot(1, num(7)), pairs(10, nums(-1, 0, 5), nums(2, 0, 3)))},
		{"texts as keys", join(entry(5, str(1, "b")), entry(5, str(1, "")), entry(5, str(1, "é"), str(1, "a"))), msg(pairs(5, txts("", "a", "b"), vals(sub(), sub(), sub())))},
		{"a flag as key, of many bits", join(entry(17, vr(1, 5), str(2, "x")), entry(17, vr(1, 1<<40), str(2, "y")), entry(17, vr(1, 0))), msg(pairs(17, nums(0, 1), txts("", "y")))},
		{"an entry's message twice is one", entry(5, run(2, vr(1, 5), vr(2, 2)), str(1, "k"), run(2, vr(16, 1), vr(2, 4))), msg(pairs(5, txts("k"), vals(sub(slot(1, num(5)), slot(2, nums(1, 2)...), slot(16, num(1))))))},
		{"an entry's message in two entries is two", join(entry(5, str(1, "k"), run(2, vr(1, 5))), entry(5, str(1, "k"), run(2, vr(16, 1)))), msg(pairs(5, txts("k"), vals(sub(slot(16, num(1))))))},
		{"an entry's oneof", entry(5, run(2, vr(6, 1)), run(2, str(8, "w"))), msg(pairs(5, txts(""), vals(sub(slot(8, txt("w"))))))},
		{"an entry's text twice", entry(17, str(2, "long"), str(2, "s")), msg(pairs(17, nums(0), txts("s")))},
		{"maps within maps", entry(5, str(1, "a"), run(2, entry(5, str(1, "b"), run(2, entry(10, vr(1, 1), vr(2, 2)))))), msg(pairs(5, txts("a"), vals(sub(pairs(5, txts("b"), vals(sub(pairs(10, nums(1), nums(2)))))))))},

		{"unknown ones alone", join(vr(99, 1), four(98, 1), eight(21, 2), str(api.MaxNo, "\xff")), msg()},
		{"unknown ones between", join(vr(99, 1), vr(1, 5), four(98, 1), vr(2, 2), eight(21, 2), vr(2, 4), str(api.MaxNo, "\xff")), msg(slot(1, num(5)), slot(2, nums(1, 2)...))},
		{"unknown ones whose bytes are no records", join(run(21, slices.Repeat([]byte{255}, 20)), vr(1, 5)), msg(slot(1, num(5)))},
		{"unknown ones in a message", run(4, run(99, vr(1, 8)), vr(1, 5), vr(19000, 5)), msg(slot(4, sub(slot(1, num(5)))))},
		{"unknown ones do not end a oneof", join(run(7, vr(1, 1)), vr(99, 1), run(7, vr(2, 2))), msg(slot(7, sub(slot(1, num(1)), slot(2, num(1)))))},
	} {
		x, err := decode.Decode(s, 0, c.b)
		if err != api.OK || text(x) != text(c.want) {
			t.Errorf("%s: %s, %d, not %s", c.name, text(x), err, text(c.want))
		}
		hold(t, s, 0, c.b)
		for _, no := range []int{4, 7, 11} {
			hold(t, s, 0, run(no, c.b))
			hold(t, s, 0, join(run(no, c.b), run(no, c.b)))
		}
		hold(t, s, 0, entry(5, run(2, c.b), run(2, c.b)))
		hold(t, s, 1, run(2, c.b))
		hold(t, s, 1, c.b)
	}
}

// P11.2: each error, alone.
func TestDecodeErrors(t *testing.T) {
	s := read(t, small)
	tooLong := slices.Repeat([]byte{255}, 10)
	for _, c := range []struct {
		name string
		b    []byte
		want api.Errno
	}{
		{"a tag that is cut", []byte{136}, api.ErrCut},
		{"a tag that does not end", tooLong, api.ErrVarint},
		{"a tag of no number", []byte{0}, api.ErrTag},
		{"a tag of no number, of no wire type", []byte{7}, api.ErrTag},
		{"a tag beyond 2^32", uv(1<<32 | 8), api.ErrTag},
		{"a wire type that is not known", []byte{11}, api.ErrWire},
		{"a wire type that is not known, of no field", []byte{99<<3&127 | 4 | 128, 6}, api.ErrWire},
		{"a number that is not there", []byte{8}, api.ErrCut},
		{"a number that is cut", []byte{8, 128}, api.ErrCut},
		{"a number that does not end", join([]byte{8}, tooLong), api.ErrVarint},
		{"an unknown number that does not end", join(head(99, api.Var), tooLong), api.ErrVarint},
		{"four bytes that are cut", four(12, 5)[:4], api.ErrCut},
		{"eight bytes that are cut", eight(13, 5)[:8], api.ErrCut},
		{"unknown eight bytes that are cut", eight(99, 5)[:9], api.ErrCut},
		{"a Run whose length is cut", []byte{26, 128}, api.ErrCut},
		{"a Run whose length does not end", join([]byte{26}, tooLong), api.ErrVarint},
		{"a Run that is cut", []byte{26, 2, 'a'}, api.ErrCut},
		{"a Run of 2^63", join([]byte{26}, uv(1<<63)), api.ErrCut},
		{"a Run of 2^64 - 1", join([]byte{26}, uv(math.MaxUint64)), api.ErrCut},
		{"an unknown Run that is cut", run(99, []byte{1, 2, 3})[:5], api.ErrCut},
		{"a number as a Run", run(1, uv(5)), api.ErrWire},
		{"an empty Run of a number", run(1), api.ErrWire},
		{"a number of four bytes", four(1, 5), api.ErrWire},
		{"a text as a number", vr(3, 5), api.ErrWire},
		{"a message as a number", vr(4, 5), api.ErrWire},
		{"a map as a number", vr(5, 5), api.ErrWire},
		{"a map as eight bytes", eight(10, 5), api.ErrWire},
		{"a repeated number as four bytes", four(2, 5), api.ErrWire},
		{"repeated texts as a number", vr(9, 5), api.ErrWire},
		{"repeated messages as a number", vr(11, 5), api.ErrWire},
		{"repeated four bytes as a number", vr(14, 5), api.ErrWire},
		{"a number in a oneof as a Run", run(6, uv(1)), api.ErrWire},
		{"a Run of numbers that is cut", run(2, []byte{1, 128}), api.ErrCut},
		{"a Run of numbers, one does not end", run(2, []byte{1}, tooLong), api.ErrVarint},
		{"a Run of four bytes that is cut", run(14, []byte{1, 2, 3, 4, 5}), api.ErrCut},
		{"a text that is no UTF-8", str(3, "a\xff"), api.ErrUtf},
		{"a text that is cut", str(3, "a\xc3"), api.ErrUtf},
		{"a text that goes on in the next one", join(str(3, "\xc3"), str(3, "\xa9")), api.ErrUtf},
		{"a text that is none, and one that is", join(str(3, "\xff"), str(3, "a")), api.ErrUtf},
		{"a repeated text", join(str(9, "a"), str(9, "\xed\xa0\x80")), api.ErrUtf},
		{"a text in a oneof", str(8, "\x80"), api.ErrUtf},
		{"a text in a oneof that gets another one", join(str(8, "\x80"), vr(6, 1)), api.ErrUtf},
		{"a key that is no UTF-8", entry(5, str(1, "\xff")), api.ErrUtf},
		{"a value that is no UTF-8", entry(17, str(2, "\xff")), api.ErrUtf},
		{"a key that is no UTF-8, and one that is", entry(5, str(1, "\xff"), str(1, "a")), api.ErrUtf},
		{"a key of another wire type", entry(10, str(1, "a")), api.ErrWire},
		{"a key that is a Run of numbers", entry(10, run(1, uv(5))), api.ErrWire},
		{"a text as key, as a number", entry(5, vr(1, 5)), api.ErrWire},
		{"a value of another wire type", entry(10, four(2, 5)), api.ErrWire},
		{"a value that is a Run of numbers", entry(10, run(2, uv(5))), api.ErrWire},
		{"a message as value, as a number", entry(5, vr(2, 5)), api.ErrWire},
		{"a text as value, as a number", entry(17, vr(2, 5)), api.ErrWire},
		{"an entry that is cut within", entry(10, []byte{8}), api.ErrCut},
		{"an entry with a number that does not end", entry(10, []byte{16}, tooLong), api.ErrVarint},
		{"an entry with a wire type that is not known", entry(10, []byte{11}), api.ErrWire},
		{"an entry of another one with a wire type that is not known", entry(10, []byte{28}), api.ErrWire},
		{"an entry with a tag of no number", entry(10, vr(1, 1), []byte{1}), api.ErrTag},
		{"an entry whose other numbers are cut", entry(10, []byte{24}), api.ErrCut},
		{"an entry's message that is cut", entry(5, run(2, []byte{8})), api.ErrCut},
		{"an entry's message with a text that is none", entry(5, str(1, "k"), run(2, str(3, "\xff"))), api.ErrUtf},
		{"a message that is cut within", run(4, []byte{8}), api.ErrCut},
		{"a message whose number would go on behind it", join(run(4, []byte{8, 128}), []byte{1}), api.ErrCut},
		{"a message whose Run would go on behind it", join(run(4, []byte{26, 1}), []byte{1}), api.ErrCut},
	} {
		for _, behind := range [][]byte{nil, vr(1, 5), join(str(3, "t"), run(4, vr(1, 1)), entry(5), vr(6, 1))} {
			for _, ahead := range [][]byte{nil, vr(1, 5), join(run(4, vr(2, 1)), vr(99, 5), run(7), entry(10, vr(1, 1)))} {
				b := join(ahead, c.b)
				if c.want != api.ErrCut && c.want != api.ErrVarint {
					b = join(b, behind)
				}
				for i, inside := range [][]byte{b, run(4, b), run(7, b), run(11, b), run(11, run(4), run(11, b)), entry(5, run(2, b)), run(20, run(2, b)), join(run(4, vr(1, 1)), run(4, b)), join(run(4, b), behind), join(entry(5, run(2), run(2, b)), behind)} {
					x, err := decode.Decode(s, 0, inside)
					if err != c.want || len(x.F) > 0 {
						t.Errorf("%s, %d: %x: %s, %d, not %d", c.name, i, inside, text(x), err, c.want)
					}
					hold(t, s, 0, inside)
				}
			}
		}
	}
}

// payloads are bytes behind a tag, of a wire type.
func payloads(wire int) []func(no int) []byte {
	var out []func(no int) []byte
	add := func(n uint64, s string) {
		out = append(out, func(no int) []byte { return rec(no, wire, n, s) })
	}
	switch wire {
	case api.Run:
		for _, s := range []string{"", "\x00", "a", "é", "\xc3", "\xff", "\x08\x05", "\x08\x80", "\x0a\x00", "\x10\x01", "\x12\x01a", "\x01\x02\x03\x04", "\x01\x02\x03\x04\x05\x06\x07\x08", "\x0a\x01a\x12\x02\x08\x01"} {
			add(0, s)
		}
	default:
		for _, n := range rawEdges {
			add(n, "")
		}
	}
	return out
}

// P11.2: records of each wire type, of each field of all forms, alone and twice: the field's kind tells its wire type, a Run may be of repeated numbers.
func TestWires(t *testing.T) {
	s := whole()
	for m := range s.M {
		for _, f := range s.M[m].F {
			for _, wire := range wireTypes {
				fits := wire == wireOf[f.Kind]
				if f.Key != api.NoKey {
					fits = wire == api.Run
				}
				packed := f.Rep && f.Kind < api.Text && wire == api.Run
				for _, one := range payloads(wire) {
					b := one(f.No)
					hold(t, s, m, b)
					_, err := decode.Decode(s, m, b)
					if !fits && !packed && err != api.ErrWire {
						t.Fatalf("message %d, field %d, wire type %d: %x: %d", m, f.No, wire, b, err)
					}
					for _, two := range payloads(wire) {
						hold(t, s, m, join(b, two(f.No)))
					}
				}
				if _, err := decode.Decode(s, m, rec(f.No, wire, 1, "")); fits != (err == api.OK) && !packed {
					t.Errorf("message %d, field %d, wire type %d: %d", m, f.No, wire, err)
				}
			}
		}
	}
}

// P11.2: Runs of repeated numbers of each kind: none, one, several, beside single ones.
func TestPacked(t *testing.T) {
	s := whole()
	for kind := api.Int; kind <= api.Enum; kind++ {
		no := repeated + kind
		single := func(n uint64) []byte { return rec(no, wireOf[kind], n, "") }
		for _, n := range rawEdges {
			x, err := decode.Decode(s, forms, join(single(n), run(no), run(no, many(kind, n)), run(no, many(kind, 1, n, 0)), single(0)))
			want := nums(wantNum(kind, n), wantNum(kind, n), wantNum(kind, 1), wantNum(kind, n), 0, 0)
			if err != api.OK || text(x) != text(msg(slot(no, want...))) {
				t.Errorf("kind %d: %s, %d", kind, text(x), err)
			}
			for _, k := range rawEdges {
				hold(t, s, forms, join(run(no, many(kind, n, k)), single(k), run(no, many(kind, k))))
			}
		}
		if x, err := decode.Decode(s, forms, join(run(no), run(no))); err != api.OK || len(x.F) > 0 {
			t.Errorf("kind %d: Runs of none: %s, %d", kind, text(x), err)
		}
		for _, alone := range []int{alone + kind, inOne + kind} {
			for _, b := range [][]byte{run(alone), run(alone, many(kind, 1)), run(alone, many(kind, 1, 1))} {
				if _, err := decode.Decode(s, forms, b); err != api.ErrWire {
					t.Errorf("kind %d: a Run of a field that is not repeated: %d", kind, err)
				}
			}
		}
	}
	for _, kind := range []int{api.Text, api.Raw, api.Sub} {
		x, err := decode.Decode(s, forms, join(run(repeated+kind), run(repeated+kind)))
		if err != api.OK || len(x.F) != 1 || len(x.F[0].V) != 2 {
			t.Errorf("kind %d: %s, %d", kind, text(x), err)
		}
	}
}

// P11.2: texts that are no UTF-8, wherever a text, or bytes, stand.
func TestUtf(t *testing.T) {
	s := whole()
	wrong := []string{"\x80", "\xbf", "\xc0\x80", "\xc1\xbf", "\xc2", "\xc3\x28", "\xe0\x80\x80", "\xe0\x9f\xbf", "\xe2\x82", "\xed\xa0\x80", "\xed\xbf\xbf", "\xf0\x8f\xbf\xbf", "\xf4\x90\x80\x80", "\xf5\x80\x80\x80", "\xff", "é\xc3"}
	fine := []string{"", "\x00", "a", "é", "\u0080", "\u07ff", "\u0800", "\ud7ff", "\ue000", "\ufffd", "\uffff", "\U00010000", "\U0010FFFF"}
	places := []struct {
		m    int
		put  func(s string) []byte
		text bool
	}{
		{forms, func(s string) []byte { return str(alone+api.Text, s) }, true},
		{forms, func(s string) []byte { return str(repeated+api.Text, s) }, true},
		{forms, func(s string) []byte { return str(inOne+api.Text, s) }, true},
		{few, func(s string) []byte { return str(api.MaxNo, s) }, true},
		{maps, func(s string) []byte { return entry(byKey+6, str(1, s)) }, true},
		{maps, func(s string) []byte { return entry(textToAny+api.Int, str(1, s), vr(2, 1)) }, true},
		{maps, func(s string) []byte { return entry(textToAny+api.Text, str(2, s)) }, true},
		{maps, func(s string) []byte { return entry(numToAny+api.Text, str(2, s)) }, true},
		{maps, func(s string) []byte { return entry(numToAny+api.Sub, run(2, str(api.MaxNo, s))) }, true},
		{forms, func(s string) []byte { return str(alone+api.Raw, s) }, false},
		{forms, func(s string) []byte { return str(repeated+api.Raw, s) }, false},
		{forms, func(s string) []byte { return str(inOne+api.Raw, s) }, false},
		{forms, func(s string) []byte { return str(99, s) }, false},
		{maps, func(s string) []byte { return entry(textToAny+api.Raw, str(2, s)) }, false},
		{maps, func(s string) []byte { return entry(numToAny+api.Raw, str(2, s)) }, false},
		{maps, func(s string) []byte { return entry(numToAny+api.Int, str(3, s)) }, false},
	}
	for i, p := range places {
		for _, around := range []string{"", "a", "é"} {
			for _, text := range wrong {
				b := p.put(around + text + around)
				want := api.OK
				if p.text {
					want = api.ErrUtf
				}
				if _, err := decode.Decode(s, p.m, b); err != want {
					t.Errorf("place %d, %q: %d", i, text, err)
				}
				hold(t, s, p.m, b)
			}
			for _, text := range fine {
				b := p.put(around + text + around)
				if _, err := decode.Decode(s, p.m, b); err != api.OK {
					t.Errorf("place %d, %q: %d", i, text, err)
				}
				hold(t, s, p.m, b)
			}
		}
	}
}

// P11.2: of fields of oneofs, in each order of three, the last one stays, and all that stands behind the last one of another field.
func TestOneofs(t *testing.T) {
	s := whole()
	var l [][]byte
	for kind := range api.Kinds {
		switch wireOf[kind] {
		case api.Run:
			l = append(l, run(inOne+kind), run(inOne+kind, vr(alone, 1)), run(inOne+kind, vr(repeated, 1)))
		default:
			l = append(l, rec(inOne+kind, wireOf[kind], 0, ""), rec(inOne+kind, wireOf[kind], 1, ""))
		}
	}
	for _, a := range l {
		for _, b := range l {
			for _, c := range l {
				hold(t, s, forms, join(a, b, c))
			}
			hold(t, s, forms, join(a, vr(99, 1), b, vr(alone, 5), a))
			hold(t, s, forms, run(alone+api.Sub, join(a, b)))
			hold(t, s, forms, join(run(inOne+api.Sub, a), run(inOne+api.Sub, b), a))
		}
	}
}

// P11.2: fields that are not repeated, twice and three times, each with each other one between.
func TestTwice(t *testing.T) {
	s := whole()
	some := func(kind int, n uint64) []byte {
		if kind == api.Sub {
			return run(alone+kind, vr(alone, n), vr(repeated, n))
		}
		return rec(alone+kind, wireOf[kind], n, strings.Repeat("x", int(n)))
	}
	for kind := range api.Kinds {
		for _, n := range []uint64{0, 1, 2} {
			for _, k := range []uint64{0, 1, 2} {
				for between := range api.Kinds {
					b := join(some(kind, n), some(between, 1), some(kind, k))
					hold(t, s, forms, b)
					hold(t, s, forms, join(b, some(kind, 1)))
				}
				x, err := decode.Decode(s, forms, join(some(kind, n), some(kind, k)))
				want := msg(slot(alone+kind, num(wantNum(kind, k))))
				switch {
				case kind == api.Sub && k == 0:
					want = msg(slot(alone+kind, sub(slot(repeated, nums(int64(n), 0)...))))
				case kind == api.Sub:
					want = msg(slot(alone+kind, sub(slot(alone, num(int64(k))), slot(repeated, nums(int64(n), int64(k))...))))
				case k == 0:
					want = msg()
				case kind >= api.Text:
					want = msg(slot(alone+kind, txt(strings.Repeat("x", int(k)))))
				}
				if err != api.OK || text(x) != text(want) {
					t.Errorf("kind %d, %d and %d: %s, %d", kind, n, k, text(x), err)
				}
			}
		}
	}
}

// P11.2: entries of each map: of a key's number, of a value's, and of others, each wire type, alone and each two.
func TestEntries(t *testing.T) {
	s := whole()
	var parts [][]byte
	for _, no := range []int{1, 2, 3} {
		for _, wire := range wireTypes {
			parts = append(parts, rec(no, wire, 1, "a"), rec(no, wire, 0, ""))
		}
	}
	parts = append(parts, str(1, "\xff"), str(2, "\xff"), run(2, vr(1, 5)), vr(1, 300), vr(2, 1<<33), []byte{8}, []byte{128}, []byte{0}, nil)
	for _, f := range s.M[maps].F {
		for _, p := range parts {
			for _, q := range parts {
				b := entry(f.No, p, q)
				hold(t, s, maps, b)
				hold(t, s, maps, join(entry(f.No), b, entry(f.No)))
			}
		}
		x, err := decode.Decode(s, maps, entry(f.No))
		want := vals(api.Val{})
		if f.Kind == api.Sub {
			want = vals(sub())
		}
		if err != api.OK || text(x) != text(msg(pairs(f.No, vals(api.Val{}), want))) {
			t.Errorf("field %d: an empty entry is %s, %d", f.No, text(x), err)
		}
		for no, kind := range map[int]int{1: f.Key, 2: f.Kind} {
			for _, wire := range wireTypes {
				want := api.OK
				if wireOf[kind] != wire {
					want = api.ErrWire
				}
				if _, err := decode.Decode(s, maps, entry(f.No, rec(no, wire, 1, ""))); err != want {
					t.Errorf("field %d, wire type %d of number %d: %d", f.No, wire, no, err)
				}
			}
		}
	}
}

// P11.2: each kind of keys with each kind of values.
func TestKeysAndValues(t *testing.T) {
	some := func(no, kind int, n uint64) []byte {
		return rec(no, wireOf[kind], n, []string{"", "\x08\x01", "\x10\x02"}[n%3])
	}
	for _, key := range keyKinds {
		for kind := range api.Kinds {
			s := api.Schema{M: []api.MsgDef{{Name: "A", F: []api.FieldDef{{No: 1, Kind: kind, Key: key}}}}, E: []api.EnumDef{{Name: "E", V: []string{"Z"}, N: []int64{0}}}}
			if kind == api.Sub {
				s.M[0].F = []api.FieldDef{{No: 1, Name: "a", Kind: kind, Key: key}, {No: 2, Name: "b", Kind: api.Uint, Key: api.NoKey}}
			}
			for k := range uint64(4) {
				for n := range uint64(3) {
					one := entry(1, some(1, key, k), some(2, kind, n))
					if kind == api.Sub && n == 1 {
						one = entry(1, some(1, key, k), run(2, entry(1, some(1, key, k)), vr(2, 7)))
					}
					hold(t, s, 0, one)
					hold(t, s, 0, join(one, entry(1, some(1, key, 1)), entry(1, some(2, kind, 2)), one))
					hold(t, s, 0, entry(1, some(2, kind, n), some(1, key, k), some(2, kind, 2), some(1, key, 1)))
				}
			}
		}
	}
}

// P11.2: Decode of a schema that may not be, or of a message that is not there, is ErrArg, whatever the bytes are.
func TestDecodeArgs(t *testing.T) {
	inputs := [][]byte{nil, {}, vr(1, 5), {0}, {8}, {11}, str(3, "\xff"), slices.Repeat([]byte{255}, 11)}
	refused := func(name string, s api.Schema, m int) {
		t.Helper()
		for _, b := range inputs {
			if x, err := decode.Decode(s, m, b); err != api.ErrArg || len(x.F) > 0 {
				t.Errorf("%s, message %d, %x: %s, %d", name, m, b, text(x), err)
			}
		}
	}
	for _, m := range []int{math.MinInt, -1 << 32, -1<<32 + 1, -4, -1, msgs, msgs + 1, 19, 20, 1 << 32, 1<<32 + 1, math.MaxInt} {
		refused("whole", whole(), m)
	}
	for m := range msgs {
		if x, err := decode.Decode(whole(), m, nil); err != api.OK || len(x.F) > 0 {
			t.Errorf("message %d: %d", m, err)
		}
	}
	refused("nothing", api.Schema{}, 0)
	refused("no messages", api.Schema{E: whole().E}, 0)
	for name, do := range map[string]func(s *api.Schema){
		"a name twice":                   func(s *api.Schema) { s.M[none].Name = "Few" },
		"a plain type's name":            func(s *api.Schema) { s.M[none].Name = "int64" },
		"an enum twice":                  func(s *api.Schema) { s.E[1].Name = "E" },
		"an enum's first number":         func(s *api.Schema) { s.E[1].N[0] = 1 },
		"an enum that is not there":      func(s *api.Schema) { s.E = s.E[:1] },
		"a number that is none":          func(s *api.Schema) { s.M[few].F[1].No = api.MaxNo + 1 },
		"a number of 0":                  func(s *api.Schema) { s.M[few].F[0].No = 0 },
		"a number that is kept":          func(s *api.Schema) { s.M[few].F[1].No = 19500 },
		"a number twice":                 func(s *api.Schema) { s.M[few].F[1].No = 1 },
		"a kind that is none":            func(s *api.Schema) { s.M[few].F[1].Kind = api.Kinds },
		"a kind below 0":                 func(s *api.Schema) { s.M[few].F[1].Kind = -1 },
		"a message that is not there":    func(s *api.Schema) { s.M[forms].F[api.Sub].Ref = msgs },
		"a message below 0":              func(s *api.Schema) { s.M[forms].F[api.Sub].Ref = -1 },
		"a key's kind that is none":      func(s *api.Schema) { s.M[few].F[1].Key = api.Raw },
		"a key's kind below -1":          func(s *api.Schema) { s.M[few].F[1].Key = -2 },
		"a oneof that is none":           func(s *api.Schema) { s.M[few].F[1].One = 31 },
		"repeated, and in a oneof":       func(s *api.Schema) { s.M[few].F[1].One, s.M[few].F[1].Rep = 1, true },
		"repeated, and a map":            func(s *api.Schema) { s.M[few].F[1].Key, s.M[few].F[1].Rep = 0, true },
		"fields by falling numbers":      func(s *api.Schema) { slices.Reverse(s.M[few].F) },
		"too many messages":              func(s *api.Schema) { s.M = append(s.M, make([]api.MsgDef, 17)...) },
		"one that another message holds": func(s *api.Schema) { s.M[none].F = []api.FieldDef{{No: 1, Kind: api.Sub, Ref: 4, Key: api.NoKey}} },
	} {
		s := whole()
		do(&s)
		if table.May(s) {
			t.Fatalf("%s may be", name)
		}
		for m := -1; m <= len(s.M); m++ {
			refused(name, s, m)
		}
	}
}

// arounds put a message into another one of small's A, by each way in which one may stand in another one.
func arounds() []func(b []byte) []byte {
	return []func(b []byte) []byte{
		func(b []byte) []byte { return run(4, b) },
		func(b []byte) []byte { return run(7, b) },
		func(b []byte) []byte { return run(11, b) },
		func(b []byte) []byte { return entry(5, run(2, b)) },
		func(b []byte) []byte { return join(run(4), run(4, b), run(11)) },
		func(b []byte) []byte { return join(run(11), vr(1, 1), run(11, b)) },
		func(b []byte) []byte { return join(vr(6, 1), run(7, b)) },
		func(b []byte) []byte { return entry(5, str(1, "k"), run(2), run(2, b)) },
		func(b []byte) []byte { return join(entry(5, str(1, "k")), entry(5, run(2, b), str(1, "k"))) },
		func(b []byte) []byte { return join(run(4, b), vr(6, 0)) },
	}
}

// nest is a message so deep, whose innermost one are these bytes.
func nest(deep int, last []byte, around func(b []byte) []byte) []byte {
	for range deep - 1 {
		last = around(last)
	}
	return last
}

// wantDeep is how deep a message is.
func wantDeep(x api.Msg) int {
	deep := 0
	for _, v := range within(x, func(api.Slot) {}) {
		for _, y := range v.M {
			deep = max(deep, wantDeep(y))
		}
	}
	return deep + 1
}

// P11.2: messages within messages, and a map's values so, about 64 deep.
func TestDeep(t *testing.T) {
	s := read(t, small)
	for i, around := range arounds() {
		for _, deep := range []int{1, 2, 3, 61, 62, 63, 64, 65, 66, 67, 100, 128} {
			for _, last := range [][]byte{nil, vr(1, 5), join(vr(2, 1), str(3, "t"), entry(10))} {
				b := nest(deep, last, around)
				x, err := decode.Decode(s, 0, b)
				if deep > 64 != (err == api.ErrDeep) || err == api.OK && wantDeep(x) != deep {
					t.Errorf("%d: %d deep is %d, %d", i, deep, wantDeep(x), err)
				}
				hold(t, s, 0, b)
			}
			for _, wrong := range [][]byte{{8}, str(3, "\xff"), vr(4, 1), {0}} {
				b := nest(deep, wrong, around)
				if _, err := decode.Decode(s, 0, b); deep > 64 != (err == api.ErrDeep) {
					t.Errorf("%d: %d deep, with an error within it, is %d", i, deep, err)
				}
				hold(t, s, 0, b)
			}
		}
	}
}

// P11.2: what a message that is 62, 63 or 64 deep may hold: each form of a field, told by the depth of what stands in it.
func TestDeepest(t *testing.T) {
	s := read(t, small)
	for _, c := range []struct {
		name  string
		last  []byte
		holds bool // does it hold another message?
	}{
		{"a message", run(4), true},
		{"a message in a oneof", run(7), true},
		{"a repeated message", run(11), true},
		{"another message", run(20), true},
		{"a map of messages", entry(5), true},
		{"a map of messages, a key alone", entry(5, str(1, "k")), true},
		{"a map of messages, whose entry is cut", entry(5, []byte{8}), true},
		{"a map of messages, its key no UTF-8", entry(5, str(1, "\xff")), true},
		{"a map of messages, its value no Run", entry(5, vr(2, 1)), true},
		{"a message with an error in it", run(4, []byte{0}), true},
		{"a map of numbers", entry(10, vr(1, 1), vr(2, 1)), false},
		{"a map of texts", entry(17, vr(1, 1), str(2, "t")), false},
		{"a text", str(3, "t"), false},
		{"an unknown Run", run(99, run(4)), false},
		{"a map's entry with an unknown Run", entry(10, run(3, run(4))), false},
		{"nothing", nil, false},
	} {
		for i, around := range arounds() {
			for deep := 62; deep <= 65; deep++ {
				b := nest(deep, c.last, around)
				hold(t, s, 0, b)
				_, err := decode.Decode(s, 0, b)
				if tooDeep := deep > 64 || c.holds && deep == 64; tooDeep != (err == api.ErrDeep) {
					t.Errorf("%s, %d, in a message %d deep: %d", c.name, i, deep, err)
				}
			}
		}
	}
	for i, around := range arounds() {
		for _, wrong := range [][]byte{vr(4, 1), vr(7, 1), eight(11, 1), four(5, 1), vr(20, 1)} {
			if _, err := decode.Decode(s, 0, nest(64, wrong, around)); err != api.ErrWire {
				t.Errorf("%d: %x, whose wire type is told ahead of its depth: %d", i, wrong, err)
			}
		}
	}
}

// P11.2, P11.3: of two errors the first one, from left to right, is told, outside first.
func TestFirst(t *testing.T) {
	s := read(t, small)
	deep := nest(64, run(4), arounds()[0])
	wrongs := []struct {
		b   []byte
		err api.Errno
	}{
		{[]byte{0}, api.ErrTag}, {[]byte{11}, api.ErrWire}, {vr(3, 1), api.ErrWire}, {str(3, "\xff"), api.ErrUtf}, {deep, api.ErrDeep},
		{run(2, []byte{128}), api.ErrCut}, {run(2, slices.Repeat([]byte{128}, 10)), api.ErrVarint}, {run(4, []byte{8}), api.ErrCut},
		{entry(5, str(1, "\xff")), api.ErrUtf}, {entry(10, []byte{1}), api.ErrTag}, {entry(10, run(2)), api.ErrWire},
		{join([]byte{8}, slices.Repeat([]byte{255}, 10)), api.ErrVarint}, {slices.Repeat([]byte{128}, 10), api.ErrVarint},
		{run(11, str(9, "\x80")), api.ErrUtf}, {run(7, run(6)), api.ErrWire}, {entry(5, run(2, []byte{2})), api.ErrTag},
	}
	told := func(b []byte, want api.Errno) {
		t.Helper()
		if x, err := decode.Decode(s, 0, b); err != want || len(x.F) > 0 {
			t.Errorf("%x: %d, not %d", b, err, want)
		}
		hold(t, s, 0, b)
	}
	for _, first := range wrongs {
		for _, next := range wrongs {
			both := join(first.b, next.b)
			told(both, first.err)
			told(join(vr(1, 5), both), first.err)
			told(join(run(4, vr(1, 1)), run(11, vr(99, 1), first.b), next.b), wantOf(s, first.b))
			told(join(run(4, first.b), run(4, next.b)), wantOf(s, first.b))
			told(join(entry(5, run(2, first.b)), next.b), wantOf(s, first.b))
			told(entry(5, run(2, first.b), run(2, next.b)), wantOf(s, first.b))
			told(entry(5, str(1, "\xff"), run(2, next.b)), api.ErrUtf)
			told(join(vr(4, 1), next.b), api.ErrWire)
		}
		// The Run around is cut: nothing within it is asked.
		for _, no := range []int{4, 5, 7, 11, 99} {
			b := run(no, first.b)
			told(b[:len(b)-1], api.ErrCut)
		}
		told(join(first.b, []byte{8}), first.err)
		told(join(str(3, "a"), entry(10, vr(1, 1), vr(3, 9)), first.b, []byte{128}), first.err)
	}
}

// wantOf is the error of bytes that are a message of A, 2 deep.
func wantOf(s api.Schema, b []byte) api.Errno { return wantError(s, 0, b, 2) }

// P11.3: what is told of bytes is normal, as it is of those that tell it in another order.
func TestNormal(t *testing.T) {
	s := read(t, small)
	parts := [][]byte{vr(1, 0), vr(2, 0), str(3, ""), run(4, vr(1, 0)), entry(5, str(1, "z"), run(2, vr(1, 0))), entry(5, str(1, "a")), vr(6, 0), four(12, 0), eight(13, 5), run(14), run(11, str(3, "")), vr(16, 0), entry(17, vr(1, 1)), entry(17)}
	for i := range parts {
		l := slices.Concat(parts[i:], parts[:i])
		b := join(l...)
		x, err := decode.Decode(s, 0, b)
		if err != api.OK || !typed.Is(s, 0, x) {
			t.Fatalf("%x: %s, %d", b, text(x), err)
		}
		want := msg(slot(2, num(0)), slot(4, sub()), pairs(5, txts("a", "z"), vals(sub(), sub())), slot(6, num(0)), slot(11, sub()), slot(13, num(5)), pairs(17, nums(0, 1), txts("", "")))
		if text(x) != text(want) {
			t.Errorf("%s, not %s", text(x), text(want))
		}
		hold(t, s, 0, run(4, b))
		hold(t, s, 0, entry(5, run(2, b)))
	}
}
