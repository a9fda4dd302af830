package merge_test

import (
	"fmt"
	"math"
	"slices"
	"testing"

	"truffle/api"
	"truffle/merge"
	"truffle/table"
)

// P13.1: the schemas that most tests ask may be, and the others may not.
func TestSchemas(t *testing.T) {
	for i, s := range []api.Schema{whole(), referTo(), read(t, small), read(t, plain)} {
		if !table.May(s) {
			t.Errorf("schema %d may not be", i)
		}
	}
	for m, want := range []int{30, 27, 2, 0} {
		if s := whole(); len(s.M) != msgs || len(s.M[m].F) != want {
			t.Errorf("message %d has %d fields", m, len(s.M[m].F))
		}
	}
	for i, s := range wrongSchemas() {
		if table.May(s) {
			t.Errorf("wrong schema %d may be", i)
		}
	}
}

// P13.1: the chapter's example: a 1 and r 2, with a 3 and r 4: a 3, r 2 and 4.
func TestChapterExample(t *testing.T) {
	s := read(t, "message A { int64 a = 1; repeated int64 r = 2; }")
	x, err := merge.Merge(s, 0, msg(slot(1, num(1)), slot(2, num(2))), msg(slot(1, num(3)), slot(2, num(4))))
	if want := msg(slot(1, num(3)), slot(2, nums(2, 4)...)); err != api.OK || text(x) != text(want) {
		t.Errorf("%s, %d", text(x), err)
	}
}

// example is two messages, and what they are merged.
type example struct {
	name       string
	a, b, want api.Msg
}

// holdExamples holds Merge against examples of schema small, and against the words too.
func holdExamples(t *testing.T, l []example) {
	t.Helper()
	s := read(t, small)
	for _, c := range l {
		x, err := merge.Merge(s, 0, c.a, c.b)
		if err != api.OK || text(x) != text(c.want) {
			t.Errorf("%s: %s, %d, not %s", c.name, text(x), err, text(c.want))
		}
		hold(t, s, 0, c.a, c.b)
	}
}

// P13.1: messages without slots, and such as get none as they are normal.
func TestMergeWithNothing(t *testing.T) {
	one := msg(slot(1, num(1)))
	full := msg(slot(1, num(1)), slot(2, num(2)), slot(4, in()), pairs(5, txts("k"), vals(in())), slot(6, num(0)), slot(9, txt("")))
	bare := msg(slot(1, num(0)), slot(2), slot(3, txt("")), slot(5), slot(11))
	holdExamples(t, []example{
		{"nothing with nothing", msg(), msg(), msg()},
		{"no slots", api.Msg{F: []api.Slot{}}, api.Msg{F: make([]api.Slot, 0, 5)}, msg()},
		{"one with nothing", one, msg(), one},
		{"nothing with one", msg(), one, one},
		{"all with nothing", full, msg(), full},
		{"nothing with all", msg(), full, full},
		{"what goes without saying with nothing", bare, msg(), msg()},
		{"nothing with what goes without saying", msg(), bare, msg()},
		{"what goes without saying with such", bare, bare, msg()},
		{"all with what goes without saying", full, bare, full},
		{"what goes without saying with all", bare, full, full},
	})
}

// P13.1: fields of one value, their slots in order, whichever message they come from.
func TestMergeValues(t *testing.T) {
	holdExamples(t, []example{
		{"a number in both", msg(slot(1, num(1))), msg(slot(1, num(3))), msg(slot(1, num(3)))},
		{"a number in both, the same", msg(slot(1, num(1))), msg(slot(1, num(1))), msg(slot(1, num(1)))},
		{"the first one is greater", msg(slot(1, num(3))), msg(slot(1, num(-1))), msg(slot(1, num(-1)))},
		{"a number, that is explicitly its default one behind", msg(slot(1, num(1))), msg(slot(1, num(0))), msg(slot(1, num(1)))},
		{"a number, that is explicitly its default one ahead", msg(slot(1, num(0))), msg(slot(1, num(1))), msg(slot(1, num(1)))},
		{"a text", msg(slot(3, txt("a"))), msg(slot(3, txt("é"))), msg(slot(3, txt("é")))},
		{"a text, that is explicitly its default one behind", msg(slot(3, txt("a"))), msg(slot(3, txt(""))), msg(slot(3, txt("a")))},
		{"bytes", msg(slot(15, txt("a"))), msg(slot(15, txt("\xff"))), msg(slot(15, txt("\xff")))},
		{"fixed ones", msg(slot(12, num(1)), slot(13, num(-1))), msg(slot(13, num(2))), msg(slot(12, num(1)), slot(13, num(2)))},
		{"an enum", msg(slot(16, num(5))), msg(slot(16, num(7))), msg(slot(16, num(7)))},
		{"an enum, that is explicitly its default one behind", msg(slot(16, num(5))), msg(slot(16, num(0))), msg(slot(16, num(5)))},
		{"the one's behind the other's", msg(slot(1, num(1))), msg(slot(3, txt("t"))), msg(slot(1, num(1)), slot(3, txt("t")))},
		{"the one's ahead of the other's", msg(slot(3, txt("t"))), msg(slot(1, num(1))), msg(slot(1, num(1)), slot(3, txt("t")))},
		{"the one's among the other's", msg(slot(1, num(1)), slot(12, num(2)), slot(16, num(3))), msg(slot(3, txt("t")), slot(13, num(4))), msg(slot(1, num(1)), slot(3, txt("t")), slot(12, num(2)), slot(13, num(4)), slot(16, num(3)))},
		{"slots in another order", msg(slot(16, num(1)), slot(1, num(2))), msg(slot(15, txt("y")), slot(3, txt("t")), slot(1, num(4))), msg(slot(1, num(4)), slot(3, txt("t")), slot(15, txt("y")), slot(16, num(1)))},
	})
}

// P13.1: repeated fields: the values of the second one stand behind those of the first one.
func TestMergeRepeated(t *testing.T) {
	one := in(slot(1, num(1)))
	holdExamples(t, []example{
		{"numbers", msg(slot(2, num(2))), msg(slot(2, num(4))), msg(slot(2, nums(2, 4)...))},
		{"many numbers, their order stays", msg(slot(2, nums(3, 1, 2)...)), msg(slot(2, nums(9, 1, 0, 1)...)), msg(slot(2, nums(3, 1, 2, 9, 1, 0, 1)...))},
		{"the same numbers", msg(slot(2, nums(1, 2)...)), msg(slot(2, nums(1, 2)...)), msg(slot(2, nums(1, 2, 1, 2)...))},
		{"default numbers", msg(slot(2, num(0))), msg(slot(2, num(0))), msg(slot(2, nums(0, 0)...))},
		{"none behind", msg(slot(2, num(2))), msg(slot(2)), msg(slot(2, num(2)))},
		{"none ahead", msg(slot(2)), msg(slot(2, num(2))), msg(slot(2, num(2)))},
		{"none in both", msg(slot(2)), msg(slot(2)), msg()},
		{"fixed ones", msg(slot(14, nums(1, 2)...)), msg(slot(14, num(1<<32-1))), msg(slot(14, nums(1, 2, 1<<32-1)...))},
		{"texts", msg(slot(9, txts("b", "")...)), msg(slot(9, txts("", "a")...)), msg(slot(9, txts("b", "", "", "a")...))},
		{"messages are not merged", msg(slot(11, one)), msg(slot(11, in(slot(2, num(1))))), msg(slot(11, one, in(slot(2, num(1)))))},
		{"messages, and such as get empty", msg(slot(11, in(), one)), msg(slot(11, in(slot(1, num(0))), one)), msg(slot(11, in(), one, in(), one))},
		{"two repeated ones", msg(slot(2, num(1)), slot(9, txt("a"))), msg(slot(9, txt("b")), slot(2, num(2))), msg(slot(2, nums(1, 2)...), slot(9, txts("a", "b")...))},
	})
}

// P13.1: maps: of each key of the second one its value is the second one's.
func TestMergeMaps(t *testing.T) {
	one, two, all := in(slot(1, num(1))), in(slot(2, num(2))), in(slot(1, num(1)), slot(2, num(2)))
	holdExamples(t, []example{
		{"a key in both", msg(pairs(10, nums(1), nums(5))), msg(pairs(10, nums(1), nums(7))), msg(pairs(10, nums(1), nums(7)))},
		{"a key in both, default behind", msg(pairs(10, nums(1), nums(5))), msg(pairs(10, nums(1), nums(0))), msg(pairs(10, nums(1), nums(0)))},
		{"a key in the first one", msg(pairs(10, nums(1), nums(5))), msg(pairs(10, nil, nil)), msg(pairs(10, nums(1), nums(5)))},
		{"a key in the second one", msg(slot(10)), msg(pairs(10, nums(1), nums(5))), msg(pairs(10, nums(1), nums(5)))},
		{"other keys, rising", msg(pairs(10, nums(1), nums(5))), msg(pairs(10, nums(-1), nums(7))), msg(pairs(10, nums(-1, 1), nums(7, 5)))},
		{"keys among others", msg(pairs(10, nums(1, 3, 5), nums(11, 13, 15))), msg(pairs(10, nums(6, 4, 3, 0), nums(26, 24, 23, 20))), msg(pairs(10, nums(0, 1, 3, 4, 5, 6), nums(20, 11, 23, 24, 15, 26)))},
		{"a default key in both", msg(pairs(10, nums(0, 1), nums(5, 6))), msg(pairs(10, nums(0), nums(7))), msg(pairs(10, nums(0, 1), nums(7, 6)))},
		{"a default key in one", msg(pairs(10, nums(1), nums(5))), msg(pairs(10, nums(0), nums(0))), msg(pairs(10, nums(0, 1), nums(0, 5)))},
		{"a key twice ahead", msg(pairs(10, nums(1, 2, 1), nums(5, 6, 7))), msg(pairs(10, nums(3), nums(8))), msg(pairs(10, nums(1, 2, 3), nums(7, 6, 8)))},
		{"a key twice behind", msg(pairs(10, nums(1, 2), nums(5, 6))), msg(pairs(10, nums(1, 3, 1), nums(7, 8, 9))), msg(pairs(10, nums(1, 2, 3), nums(9, 6, 8)))},
		{"a key twice in both", msg(pairs(10, nums(1, 1), nums(5, 6))), msg(pairs(10, nums(1, 1), nums(7, 0))), msg(pairs(10, nums(1), nums(0)))},
		{"flags as keys", msg(pairs(17, nums(1), txts("yes"))), msg(pairs(17, nums(0), txts("no"))), msg(pairs(17, nums(0, 1), txts("no", "yes")))},
		{"texts as keys", msg(pairs(5, txts("b", "é"), vals(one, one))), msg(pairs(5, txts("ab", "b", ""), vals(two, two, two))), msg(pairs(5, txts("", "ab", "b", "é"), vals(two, two, two, one)))},
		{"messages as values are not merged", msg(pairs(5, txts("k"), vals(one))), msg(pairs(5, txts("k"), vals(two))), msg(pairs(5, txts("k"), vals(two)))},
		{"an empty message as a value", msg(pairs(5, txts("k"), vals(all))), msg(pairs(5, txts("k"), vals(in(slot(1, num(0)))))), msg(pairs(5, txts("k"), vals(in())))},
		{"maps in maps are not merged", msg(pairs(5, txts("k"), vals(in(pairs(5, txts("a"), vals(one)))))), msg(pairs(5, txts("k"), vals(in(pairs(5, txts("c", "b"), vals(one, two)))))), msg(pairs(5, txts("k"), vals(in(pairs(5, txts("b", "c"), vals(two, one))))))},
		{"two maps", msg(pairs(5, txts("k"), vals(one)), pairs(10, nums(1), nums(5))), msg(pairs(10, nums(2), nums(7)), pairs(5, txts("j"), vals(two))), msg(pairs(5, txts("j", "k"), vals(two, one)), pairs(10, nums(1, 2), nums(5, 7)))},
	})
}

// P13.1: a Sub that is neither repeated nor a map.
func TestMergeSubs(t *testing.T) {
	one, two, all := in(slot(1, num(1))), in(slot(2, num(2))), in(slot(1, num(1)), slot(2, num(2)))
	holdExamples(t, []example{
		{"both have one", msg(slot(4, one)), msg(slot(4, two)), msg(slot(4, all))},
		{"both have one, the other way", msg(slot(4, two)), msg(slot(4, one)), msg(slot(4, all))},
		{"both have the same one", msg(slot(4, all)), msg(slot(4, all)), msg(slot(4, in(slot(1, num(1)), slot(2, nums(2, 2)...))))},
		{"the first one has one", msg(slot(4, one)), msg(slot(1, num(5))), msg(slot(1, num(5)), slot(4, one))},
		{"the second one has one", msg(slot(1, num(5))), msg(slot(4, one)), msg(slot(1, num(5)), slot(4, one))},
		{"an empty one behind", msg(slot(4, one)), msg(slot(4, in())), msg(slot(4, one))},
		{"an empty one ahead", msg(slot(4, in())), msg(slot(4, one)), msg(slot(4, one))},
		{"empty ones", msg(slot(4, in())), msg(slot(4, in())), msg(slot(4, in()))},
		{"one that gets empty alone", msg(), msg(slot(4, in(slot(1, num(0)), slot(2)))), msg(slot(4, in()))},
		{"what is default within", msg(slot(4, one)), msg(slot(4, in(slot(1, num(0))))), msg(slot(4, one))},
		{"inside messages", msg(slot(4, in(slot(4, one)))), msg(slot(4, in(slot(4, two)))), msg(slot(4, in(slot(4, all))))},
		{"inside messages inside messages", msg(slot(4, in(slot(4, in(slot(4, one))), slot(1, num(1))))), msg(slot(4, in(slot(1, num(2)), slot(4, in(slot(4, two), slot(3, txt("t"))))))), msg(slot(4, in(slot(1, num(2)), slot(4, in(slot(3, txt("t")), slot(4, all))))))},
		{"the first one is deeper", msg(slot(4, in(slot(4, in(slot(4, one)))))), msg(slot(4, two)), msg(slot(4, in(slot(2, num(2)), slot(4, in(slot(4, one))))))},
		{"the second one is deeper", msg(slot(4, two)), msg(slot(4, in(slot(4, in(slot(4, one)))))), msg(slot(4, in(slot(2, num(2)), slot(4, in(slot(4, one))))))},
		{"of another message", msg(slot(20, in(slot(2, one)))), msg(slot(20, in(slot(2, two), slot(1, txt("\xff"))))), msg(slot(20, in(slot(1, txt("\xff")), slot(2, all))))},
		{"repeated ones within", msg(slot(4, in(slot(11, one)))), msg(slot(4, in(slot(11, two)))), msg(slot(4, in(slot(11, one, two))))},
		{"maps within", msg(slot(4, in(pairs(10, nums(2, 1), nums(5, 6))))), msg(slot(4, in(pairs(10, nums(1, 0), nums(7, 8))))), msg(slot(4, in(pairs(10, nums(0, 1, 2), nums(8, 7, 5)))))},
		{"a oneof within", msg(slot(4, in(slot(6, num(1))))), msg(slot(4, in(slot(8, txt(""))))), msg(slot(4, in(slot(8, txt("")))))},
	})
}

// P13.1: oneofs.
func TestMergeOneofs(t *testing.T) {
	one, two, all := in(slot(1, num(1))), in(slot(2, num(2))), in(slot(1, num(1)), slot(2, num(2)))
	holdExamples(t, []example{
		{"the same field", msg(slot(8, txt("a"))), msg(slot(8, txt("b"))), msg(slot(8, txt("b")))},
		{"the same field, explicitly default behind", msg(slot(8, txt("a"))), msg(slot(8, txt(""))), msg(slot(8, txt("")))},
		{"the same field, default in both", msg(slot(6, num(0))), msg(slot(6, num(0))), msg(slot(6, num(0)))},
		{"another field", msg(slot(6, num(1))), msg(slot(8, txt("b"))), msg(slot(8, txt("b")))},
		{"another field, of a smaller number", msg(slot(8, txt("b"))), msg(slot(6, num(1))), msg(slot(6, num(1)))},
		{"another field, explicitly default", msg(slot(8, txt("b"))), msg(slot(6, num(0))), msg(slot(6, num(0)))},
		{"none behind", msg(slot(6, num(0))), msg(), msg(slot(6, num(0)))},
		{"a Sub in both", msg(slot(7, one)), msg(slot(7, two)), msg(slot(7, all))},
		{"an empty Sub behind", msg(slot(7, one)), msg(slot(7, in())), msg(slot(7, one))},
		{"a Sub behind another field", msg(slot(6, num(1))), msg(slot(7, in())), msg(slot(7, in()))},
		{"another field behind a Sub", msg(slot(7, one)), msg(slot(6, num(0))), msg(slot(6, num(0)))},
		{"a Sub behind another Sub", msg(slot(7, one)), msg(slot(21, in(slot(1, txt("x"))))), msg(slot(21, in(slot(1, txt("x")))))},
		{"another Sub, the other way", msg(slot(21, in(slot(1, txt("x"))))), msg(slot(7, one)), msg(slot(7, one))},
		{"two oneofs", msg(slot(6, num(1)), slot(18, num(1))), msg(slot(8, txt("b")), slot(19, num(0))), msg(slot(8, txt("b")), slot(19, num(0)))},
		{"two oneofs, one of which is told again", msg(slot(6, num(1)), slot(18, num(1))), msg(slot(19, num(0))), msg(slot(6, num(1)), slot(19, num(0)))},
		{"two oneofs, each in one", msg(slot(6, num(1))), msg(slot(18, num(1))), msg(slot(6, num(1)), slot(18, num(1)))},
		{"other fields stay", msg(slot(1, num(1)), slot(2, num(1)), slot(4, one), pairs(5, txts("k"), vals(one)), slot(6, num(1))), msg(slot(8, txt("b"))), msg(slot(1, num(1)), slot(2, num(1)), slot(4, one), pairs(5, txts("k"), vals(one)), slot(8, txt("b")))},
		{"oneofs in a Sub of a oneof", msg(slot(7, in(slot(6, num(1))))), msg(slot(7, in(slot(7, one)))), msg(slot(7, in(slot(7, one))))},
		{"Subs in oneofs in Subs in oneofs", msg(slot(7, in(slot(7, in(slot(7, one)))))), msg(slot(7, in(slot(7, in(slot(7, two)))))), msg(slot(7, in(slot(7, in(slot(7, all))))))},
	})
}

// P13.1: messages that are not of their message, each for one reason, on either side.
func TestMergeWrong(t *testing.T) {
	s := read(t, small)
	one, other := in(slot(1, num(1))), in(slot(30))
	for _, c := range []struct {
		name string
		x    api.Msg
	}{
		{"no field's", msg(slot(30))},
		{"no field's: 0", msg(slot(0, num(1)))},
		{"no field's: below 0", msg(slot(-1, num(1)))},
		{"no field's, beyond 32 bits", msg(slot(1+1<<32, num(1)))},
		{"no field's, behind others", msg(slot(1, num(1)), slot(2), slot(30, num(1)))},
		{"none of one", msg(slot(1))},
		{"two of one", msg(slot(1, num(1), num(1)))},
		{"two slots of one number", msg(slot(1, num(1)), slot(1, num(1)))},
		{"two slots of one number, repeated", msg(slot(2, num(1)), slot(2, num(1)))},
		{"two in one oneof", msg(slot(6, num(1)), slot(8, txt("w")))},
		{"two in one oneof, default", msg(slot(18, num(0)), slot(19, num(0)))},
		{"a text where a number stands", msg(slot(1, txt("a")))},
		{"a number where a text stands", msg(slot(3, num(1)))},
		{"a message where a number stands", msg(slot(1, one))},
		{"a number where a message stands", msg(slot(4, num(1)))},
		{"no message where one stands", msg(slot(4, api.Val{}))},
		{"two messages where one stands", msg(slot(4, sub(msg(), msg())))},
		{"a number beside a message", msg(slot(4, api.Val{N: 1, M: one.M}))},
		{"a text that is no UTF-8", msg(slot(3, txt("\xff")))},
		{"beyond 32 bits", msg(slot(12, num(1<<32)))},
		{"an enum beyond 32 bits", msg(slot(16, num(1<<31)))},
		{"a flag that is none", msg(slot(6, num(2)))},
		{"the last one, repeated, is wrong", msg(slot(14, nums(1, 2, -1)...))},
		{"a message, repeated, is wrong", msg(slot(11, one, other))},
		{"keys of what is no map", msg(pairs(1, nums(1), nums(1)))},
		{"keys of what is repeated", msg(pairs(2, nums(1), nums(1)))},
		{"fewer keys", msg(pairs(10, nums(1), nums(1, 2)))},
		{"more keys", msg(pairs(10, nums(1, 2), nums(1)))},
		{"a key that is wrong", msg(pairs(17, nums(2), txts("a")))},
		{"a map's value is wrong, of a key that stands again", msg(pairs(5, txts("k", "k"), vals(other, one)))},
		{"a message within is wrong", msg(slot(4, in(slot(4, other))))},
		{"a message within is another's", msg(slot(20, in(slot(3, txt("t")))))},
		{"a default one within is wrong", msg(slot(4, in(slot(1))))},
		{"65 deep", nest(65, msg(), arounds()[0])},
	} {
		for i, fine := range []api.Msg{msg(), msg(slot(1, num(1)), slot(2, nums(2, 3)...), slot(4, one)), c.x} {
			for _, sides := range [][2]api.Msg{{c.x, fine}, {fine, c.x}} {
				if x, err := merge.Merge(s, 0, sides[0], sides[1]); err != api.ErrArg || len(x.F) > 0 {
					t.Errorf("%s, with %d: %s, %d", c.name, i, text(x), err)
				}
				hold(t, s, 0, sides[0], sides[1])
			}
		}
	}
}

// P13.1: what may not be alone is not mended by the other one: fields of one oneof, one of them in each, may be.
func TestMergeAsksEach(t *testing.T) {
	s := read(t, small)
	if _, err := merge.Merge(s, 0, msg(slot(6, num(1))), msg(slot(8, txt("w")))); err != api.OK {
		t.Errorf("a oneof's fields, one in each: %d", err)
	}
	if _, err := merge.Merge(s, 0, msg(slot(1)), msg(slot(1, num(1)))); err != api.ErrArg {
		t.Errorf("a slot without a value ahead: %d", err)
	}
	if _, err := merge.Merge(s, 0, msg(slot(7, in(slot(30)))), msg(slot(6, num(1)))); err != api.ErrArg {
		t.Errorf("a wrong message that would be gone: %d", err)
	}
	if _, err := merge.Merge(s, 0, msg(slot(1, txt("a"))), msg(slot(1, num(1)))); err != api.ErrArg {
		t.Errorf("a wrong value that would be gone: %d", err)
	}
}

// notThere are numbers that no message has, of a schema with so many.
func notThere(many int) []int {
	return []int{math.MinInt, -1 << 32, -many, -2, -1, many, many + 1, 20, 1 << 32, math.MaxInt}
}

// P13.1: messages that are not there.
func TestMergeMessages(t *testing.T) {
	s := whole()
	for _, m := range notThere(msgs) {
		for _, x := range []api.Msg{msg(), msg(slot(1, num(1)))} {
			if x, err := merge.Merge(s, m, x, msg()); err != api.ErrArg || len(x.F) > 0 {
				t.Errorf("message %d: %s, %d", m, text(x), err)
			}
			hold(t, s, m, x, x)
			hold(t, s, m, msg(), x)
		}
	}
	for m := range msgs {
		if x, err := merge.Merge(s, m, msg(), msg()); err != api.OK || len(x.F) > 0 {
			t.Errorf("message %d: %s, %d", m, text(x), err)
		}
	}
	// What is of one message is not of another one.
	x := msg(slot(api.MaxNo, txt("z")))
	for m := range msgs {
		_, err := merge.Merge(s, m, x, msg())
		_, other := merge.Merge(s, m, msg(), x)
		if is := m == few; is != (err == api.OK) || is != (other == api.OK) {
			t.Errorf("message %d: %d, %d", m, err, other)
		}
	}
}

// P13.1: of a schema that may not be nothing is told.
func TestMergeWrongSchemas(t *testing.T) {
	for i, s := range wrongSchemas() {
		for m := -1; m <= len(s.M); m++ {
			for _, x := range []api.Msg{msg(), msg(slot(1, num(5)))} {
				for _, y := range []api.Msg{msg(), x} {
					got, err := merge.Merge(s, m, x, y)
					if err != api.ErrArg || len(got.F) > 0 {
						t.Errorf("schema %d, message %d, %s: %s, %d", i, m, text(x), text(got), err)
					}
				}
			}
		}
	}
}

// someOfKind are values of a kind: the first one is default.
func someOfKind(kind int) []api.Val {
	least, greatest := limits(kind)
	switch kind {
	case api.Text:
		return txts("", "a", "é", "long enough")
	case api.Raw:
		return txts("", "\xff", "\x00\x00")
	case api.Sub:
		return vals(in(), in(slot(1, num(1))), in(slot(api.MaxNo, txt("z")), slot(1, num(0))), in(slot(1, num(2)), slot(api.MaxNo, txt("y"))))
	}
	return nums(0, 1, least, greatest, greatest-1)
}

// slotsOf are slots of a field that may be: with none, one and several values, of keys that stand once and twice.
func slotsOf(f api.FieldDef) []api.Slot {
	values := someOfKind(f.Kind)
	var out []api.Slot
	if f.Key != api.NoKey {
		keys := someOfKind(f.Key)
		out = append(out, slot(f.No))
		for i, k := range keys {
			v, w := values[i%len(values)], values[(i+1)%len(values)]
			out = append(out, pairs(f.No, vals(k), vals(v)), pairs(f.No, vals(k, keys[0]), vals(v, w)), pairs(f.No, vals(k, keys[1], k), vals(v, v, w)))
		}
		return out
	}
	for i, v := range values {
		out = append(out, slot(f.No, v))
		if f.Rep {
			out = append(out, slot(f.No, values[:i]...), slot(f.No, v, values[0], v))
		}
	}
	return out
}

// P13.1, P13.2: each field of each form, of each kind: each two of its slots, and each of them alone.
func TestMergeForms(t *testing.T) {
	s := referTo()
	for m := range s.M {
		for _, f := range s.M[m].F {
			slots := slotsOf(f)
			for _, a := range slots {
				hold(t, s, m, msg(a), msg())
				hold(t, s, m, msg(), msg(a))
				for _, b := range slots {
					hold(t, s, m, msg(a), msg(b))
				}
			}
		}
	}
}

// P13.1: of each kind, repeated: all values of the one, and then all of the other.
func TestMergeRepeatedKinds(t *testing.T) {
	s := referTo()
	for kind := range api.Kinds {
		no := repeated + kind
		l := someOfKind(kind)
		for i := range l {
			x, err := merge.Merge(s, forms, msg(slot(no, l[i:]...)), msg(slot(no, l[:i+1]...)))
			want := wantNormal(s, forms, msg(slot(no, slices.Concat(l[i:], l[:i+1])...)))
			if err != api.OK || text(x) != text(want) {
				t.Errorf("kind %d: %s, %d, not %s", kind, text(x), err, text(want))
			}
		}
	}
}

// P13.1: each two fields of a message, with default values and others: of one oneof only the second one's stays.
func TestMergeTwoFields(t *testing.T) {
	s := referTo()
	for m := range s.M {
		for _, f := range s.M[m].F {
			for _, g := range s.M[m].F {
				for _, i := range []int{0, 1} {
					a, b := firstOf(f, i), firstOf(g, i)
					x := hold(t, s, m, msg(a), msg(b))
					_, was := slotOf(x, f.No)
					if sameOne := f.No != g.No && f.One != 0 && f.One == g.One; i == 1 && was == sameOne {
						t.Fatalf("%d with %d: %s", f.No, g.No, text(x))
					}
				}
			}
		}
	}
}

// firstOf is a slot of a field with one value, the i-th one of its kind.
func firstOf(f api.FieldDef, i int) api.Slot {
	out := slot(f.No, someOfKind(f.Kind)[i])
	if f.Key != api.NoKey {
		out.K = vals(someOfKind(f.Key)[i])
	}
	return out
}

// P13.1: merging makes no more levels than there are: messages up to 64 deep, in each way in which one may stand in another one, with such as are so in another way; what is 65 deep is wrong.
func TestMergeDeep(t *testing.T) {
	s := read(t, small)
	levels := []int{1, 63, 64, 65}
	for i, around := range arounds() {
		for j, other := range arounds() {
			for _, deep := range levels {
				for _, deeper := range levels {
					name := fmt.Sprint(i, " and ", j, ", ", deep, " and ", deeper, " deep")
					a := nest(deep, msg(slot(1, num(1))), around)
					b := nest(deeper, msg(slot(2, num(2))), other)
					x := hold(t, s, 0, a, b)
					_, err := merge.Merge(s, 0, a, b)
					if (err == api.OK) != (deep <= 64 && deeper <= 64) {
						t.Fatalf("%s: %d", name, err)
					}
					if wantDeep(x) > max(deep, deeper) {
						t.Fatalf("%s: it is %d deep", name, wantDeep(x))
					}
				}
			}
		}
	}
}

// P13.1: Subs in Subs, 64 deep: the innermost ones are merged, too.
func TestMergeInnermost(t *testing.T) {
	s := read(t, small)
	within := func(no int) func(x api.Msg) api.Msg {
		return func(x api.Msg) api.Msg { return msg(slot(no, sub(x))) }
	}
	for _, no := range []int{4, 7} {
		for _, deep := range []int{1, 2, 10, 63, 64} {
			a := nest(deep, msg(slot(1, num(1)), slot(2, num(1))), within(no))
			b := nest(deep, msg(slot(2, num(2))), within(no))
			want := nest(deep, msg(slot(1, num(1)), slot(2, nums(1, 2)...)), within(no))
			if x, err := merge.Merge(s, 0, a, b); err != api.OK || text(x) != text(want) {
				t.Errorf("%d deep: %.300s, %d", deep, text(x), err)
			}
		}
		x, err := merge.Merge(s, 0, nest(64, msg(), within(no)), nest(65, msg(), within(no)))
		if err != api.ErrArg || len(x.F) > 0 {
			t.Errorf("65 deep: %d", err)
		}
	}
}
