package merge_test

import (
	"fmt"
	"slices"
	"testing"

	"truffle/api"
	"truffle/merge"
)

// P13.1: All without any message is one without slots.
func TestAllOfNone(t *testing.T) {
	s := whole()
	for m := range msgs {
		for _, l := range [][]api.Msg{nil, {}, make([]api.Msg, 0, 3)} {
			if x, err := merge.All(s, m, l...); err != api.OK || len(x.F) > 0 {
				t.Errorf("message %d: %s, %d", m, text(x), err)
			}
		}
		if x, err := merge.All(s, m); err != api.OK || len(x.F) > 0 {
			t.Errorf("message %d: %s, %d", m, text(x), err)
		}
	}
}

// P13.1: All of one is that one, normal.
func TestAllOfOne(t *testing.T) {
	s := read(t, small)
	one, two := in(slot(1, num(1))), in(slot(2, num(2)))
	for _, c := range []struct{ x, want api.Msg }{
		{msg(), msg()},
		{msg(slot(1, num(1))), msg(slot(1, num(1)))},
		{msg(slot(1, num(0)), slot(2), slot(3, txt(""))), msg()},
		{msg(slot(3, txt("t")), slot(1, num(1))), msg(slot(1, num(1)), slot(3, txt("t")))},
		{msg(slot(6, num(0))), msg(slot(6, num(0)))},
		{msg(pairs(5, txts("k", "j", "k"), vals(one, one, two))), msg(pairs(5, txts("j", "k"), vals(one, two)))},
		{msg(slot(4, in(slot(2, nums(3, 1)...), slot(1, num(0))))), msg(slot(4, in(slot(2, nums(3, 1)...))))},
		{msg(slot(11, one, in(), two)), msg(slot(11, one, in(), two))},
	} {
		if x, err := merge.All(s, 0, c.x); err != api.OK || text(x) != text(c.want) {
			t.Errorf("%s: %s, %d, not %s", text(c.x), text(x), err, text(c.want))
		}
		holdAll(t, s, 0, c.x)
	}
}

// P13.1: All of several, one by one.
func TestAllExamples(t *testing.T) {
	s := read(t, small)
	one, two, three := in(slot(1, num(1))), in(slot(2, num(2))), in(slot(3, txt("t")))
	for _, c := range []struct {
		name string
		l    []api.Msg
		want api.Msg
	}{
		{"none with slots", []api.Msg{msg(), msg(), msg()}, msg()},
		{"the last number", []api.Msg{msg(slot(1, num(1))), msg(slot(1, num(3))), msg(slot(1, num(2))), msg(slot(1, num(0)))}, msg(slot(1, num(2)))},
		{"all numbers", []api.Msg{msg(slot(2, num(3))), msg(slot(2)), msg(slot(2, nums(1, 2)...)), msg(), msg(slot(2, num(1)))}, msg(slot(2, nums(3, 1, 2, 1)...))},
		{"all keys", []api.Msg{msg(pairs(10, nums(2), nums(5))), msg(pairs(10, nums(1, 3), nums(6, 7))), msg(pairs(10, nums(3, 2), nums(8, 0))), msg(pairs(10, nums(0), nums(9)))}, msg(pairs(10, nums(0, 1, 2, 3), nums(9, 6, 0, 8)))},
		{"all slots, rising", []api.Msg{msg(slot(16, num(1))), msg(slot(3, txt("t"))), msg(slot(12, num(2))), msg(slot(1, num(3)))}, msg(slot(1, num(3)), slot(3, txt("t")), slot(12, num(2)), slot(16, num(1)))},
		{"all messages", []api.Msg{msg(slot(4, one)), msg(slot(4, two)), msg(slot(4, in())), msg(slot(4, three)), msg(slot(4, two))}, msg(slot(4, in(slot(1, num(1)), slot(2, nums(2, 2)...), slot(3, txt("t")))))},
		{"the last field of a oneof", []api.Msg{msg(slot(6, num(1))), msg(slot(8, txt("w"))), msg(slot(7, one)), msg(slot(8, txt("")))}, msg(slot(8, txt("")))},
		{"a number that comes again behind another field", []api.Msg{msg(slot(6, num(1))), msg(slot(8, txt("w"))), msg(slot(6, num(0)))}, msg(slot(6, num(0)))},
		{"a Sub that comes again behind another field", []api.Msg{msg(slot(7, one)), msg(slot(6, num(1))), msg(slot(7, two))}, msg(slot(7, two))},
		{"a Sub that comes again behind a default one", []api.Msg{msg(slot(7, one)), msg(slot(6, num(0))), msg(slot(7, in()))}, msg(slot(7, in()))},
		{"a Sub that comes again behind another Sub", []api.Msg{msg(slot(7, one)), msg(slot(21, in())), msg(slot(7, two)), msg(slot(7, three))}, msg(slot(7, in(slot(2, num(2)), slot(3, txt("t")))))},
		{"a Sub that comes again behind what is in no oneof", []api.Msg{msg(slot(7, one)), msg(slot(1, num(1)), slot(18, num(1))), msg(slot(7, two))}, msg(slot(1, num(1)), slot(7, in(slot(1, num(1)), slot(2, num(2)))), slot(18, num(1)))},
		{"a Sub that comes again, inside a Sub", []api.Msg{msg(slot(4, in(slot(7, one)))), msg(slot(4, in(slot(8, txt("w"))))), msg(slot(4, in(slot(7, two))))}, msg(slot(4, in(slot(7, two))))},
		{"a Sub that comes again, inside a Sub that does", []api.Msg{msg(slot(7, in(slot(7, one)))), msg(slot(7, in(slot(6, num(1))))), msg(slot(7, in(slot(7, two))))}, msg(slot(7, in(slot(7, two))))},
	} {
		if x, err := merge.All(s, 0, c.l...); err != api.OK || text(x) != text(c.want) {
			t.Errorf("%s: %s, %d, not %s", c.name, text(x), err, text(c.want))
		}
		holdAll(t, s, 0, c.l...)
	}
}

// P13.1: All is Merge of all ahead, and the next one, from a message without slots on.
func TestAllIsMerge(t *testing.T) {
	s := read(t, small)
	l := someMessages()
	for i := range l {
		for k := range l {
			var want api.Msg
			these := []api.Msg{l[i], l[k], l[(i+k)%len(l)], l[i]}
			for j, x := range these {
				next, err := merge.Merge(s, 0, want, x)
				if err != api.OK {
					t.Fatal(err)
				}
				want = next
				if all, err := merge.All(s, 0, these[:j+1]...); err != api.OK || text(all) != text(want) {
					t.Fatalf("%s: %s, %d, not %s", textOf(these[:j+1]...), text(all), err, text(want))
				}
			}
		}
	}
}

// someMessages are some of schema small, of schema plain too, of each form of fields.
func someMessages() []api.Msg {
	one, two := in(slot(1, num(1))), in(slot(2, num(2)))
	return []api.Msg{
		msg(), msg(slot(1, num(1))), msg(slot(1, num(0))), msg(slot(2, nums(3, 1)...)), msg(slot(3, txt("t")), slot(2, num(5))),
		msg(slot(4, one)), msg(slot(4, in(slot(4, two), slot(1, num(2))))), msg(pairs(5, txts("b", "a", "b"), vals(one, one, two))), msg(pairs(5, txts("a", ""), vals(two, in()))),
		msg(slot(6, num(1))), msg(slot(6, num(0))), msg(slot(7, one)), msg(slot(7, two)), msg(slot(7, in())), msg(slot(8, txt("w"))), msg(slot(21, in(slot(2, two)))),
		msg(slot(18, num(1)), slot(11, one, two)), msg(slot(19, num(0)), pairs(17, nums(1, 0), txts("", "n"))), msg(pairs(10, nums(2, 0), nums(0, 1))),
	}
}

// P13.1: one that is not of its message, at each place among others, tells an error; of several too.
func TestAllWrong(t *testing.T) {
	s := read(t, small)
	fine := []api.Msg{msg(slot(1, num(1))), msg(slot(2, nums(1, 2)...)), msg(), msg(slot(7, in()))}
	for i, wrong := range []api.Msg{
		msg(slot(30)), msg(slot(1)), msg(slot(1, num(1), num(2))), msg(slot(1, txt("a"))), msg(slot(6, num(0)), slot(8, txt(""))), msg(slot(4, in(slot(30)))),
		msg(pairs(10, nums(1), nil)), msg(slot(12, num(-1))), msg(slot(2), slot(2)), nest(65, msg(), arounds()[0]),
	} {
		for many := range len(fine) + 1 {
			for at := range many + 1 {
				l := slices.Insert(slices.Clone(fine[:many]), at, wrong)
				if x, err := merge.All(s, 0, l...); err != api.ErrArg || len(x.F) > 0 {
					t.Errorf("%d at %d of %d: %s, %d", i, at, many, text(x), err)
				}
				holdAll(t, s, 0, l...)
				holdAll(t, s, 0, append(l, wrong)...)
			}
		}
	}
}

// P13.1: All of messages that are not there, also without any message.
func TestAllMessages(t *testing.T) {
	s := whole()
	for _, m := range notThere(msgs) {
		for _, l := range [][]api.Msg{nil, {msg()}, {msg(slot(1, num(1))), msg()}, {msg(slot(99))}} {
			if x, err := merge.All(s, m, l...); err != api.ErrArg || len(x.F) > 0 {
				t.Errorf("message %d, of %d: %s, %d", m, len(l), text(x), err)
			}
			holdAll(t, s, m, l...)
		}
	}
}

// P13.1: All of a schema that may not be, also without any message.
func TestAllWrongSchemas(t *testing.T) {
	for i, s := range wrongSchemas() {
		for m := -1; m <= len(s.M); m++ {
			for _, l := range [][]api.Msg{nil, {msg()}, {msg(), msg()}, {msg(slot(1, num(5)))}} {
				if x, err := merge.All(s, m, l...); err != api.ErrArg || len(x.F) > 0 {
					t.Errorf("schema %d, message %d, of %d: %s, %d", i, m, len(l), text(x), err)
				}
			}
		}
	}
}

// P13.1: All of very many, each with a value, a key, and a text, of its own.
func TestAllOfMany(t *testing.T) {
	s := read(t, small)
	const many = 20000
	l := make([]api.Msg, many)
	var values, keys, ends []api.Val
	for i := range l {
		n := int64(i)
		name := txt(fmt.Sprintf("%06d", many-i))
		l[i] = msg(slot(2, num(n)), pairs(10, nums(many-n, 0), nums(n, n)), slot(4, in(slot(9, name), slot(1, num(n)))), slot(7, in(slot(2, num(n)))))
		values, keys, ends = append(values, num(n)), append(keys, num(n+1)), append(ends, num(many-1-n))
	}
	x, err := merge.All(s, 0, l...)
	if err != api.OK || wantDeep(x) != 2 {
		t.Fatalf("%d deep, %d", wantDeep(x), err)
	}
	within, _ := slotOf(x, 4)
	texts, _ := slotOf(within.V[0].M[0], 9)
	for i, v := range texts.V {
		if v.S != fmt.Sprintf("%06d", many-i) {
			t.Fatalf("text %d is %q", i, v.S)
		}
	}
	keys, ends = append(nums(0), keys...), append(nums(many-1), ends...)
	want := msg(slot(2, values...), slot(4, in(slot(1, num(many-1)), slot(9, texts.V...))), slot(7, in(slot(2, values...))), pairs(10, keys, ends))
	if len(texts.V) != many || text(x) != text(want) {
		t.Errorf("%.300s, not %.300s", text(x), text(want))
	}
}

// P13.2: if no message is in a oneof it does not matter in which two parts several are merged.
func TestAllParts(t *testing.T) {
	s := read(t, plain)
	l := someMessages()
	for i := range l {
		for k := range l {
			holdParts(t, s, 0, l[i], l[k], l[(i*k+i)%len(l)])
			holdParts(t, s, 0, l[i], l[k], l[i], l[(i+2*k)%len(l)], l[k])
		}
	}
}

// holdParts holds that several are the same, merged in each two parts, and from the left and from the right.
func holdParts(t *testing.T, s api.Schema, m int, l ...api.Msg) {
	t.Helper()
	whole := holdAll(t, s, m, l...)
	var fromLeft, fromRight api.Msg
	for i := range l {
		fromLeft = hold(t, s, m, fromLeft, l[i])
		fromRight = hold(t, s, m, l[len(l)-1-i], fromRight)
	}
	if text(fromLeft) != text(whole) || text(fromRight) != text(whole) {
		t.Fatalf("%s: %s, from the left %s, from the right %s", textOf(l...), text(whole), text(fromLeft), text(fromRight))
	}
	for i := range len(l) + 1 {
		x, err := merge.All(s, m, l[:i]...)
		y, other := merge.All(s, m, l[i:]...)
		if err != api.OK || other != api.OK {
			t.Fatalf("%s: %d, %d", textOf(l...), err, other)
		}
		if both, err := merge.Merge(s, m, x, y); err != api.OK || text(both) != text(whole) {
			t.Fatalf("%s in parts at %d: %s, %d, not %s", textOf(l...), i, text(both), err, text(whole))
		}
	}
}

// P13.1: of a message in a oneof it matters in which two parts several are merged: from the left what was gone stays gone.
func TestAllPartsOfOneof(t *testing.T) {
	s := read(t, small)
	a, b, c := msg(slot(7, in(slot(1, num(1))))), msg(slot(6, num(1))), msg(slot(7, in(slot(2, num(2)))))
	left := hold(t, s, 0, hold(t, s, 0, a, b), c)
	right := hold(t, s, 0, a, hold(t, s, 0, b, c))
	if text(left) != text(c) || text(right) != text(msg(slot(7, in(slot(1, num(1)), slot(2, num(2)))))) {
		t.Errorf("from the left %s, from the right %s", text(left), text(right))
	}
}
