package typed_test

import (
	"fmt"
	"math"
	"math/rand/v2"
	"slices"
	"testing"

	"truffle/api"
	"truffle/table"
	"truffle/typed"
	"truffle/value"
)

// P10.2: Normal and Is of messages that may be.
func TestNormalExamples(t *testing.T) {
	s := read(t, small)
	zero, a := sub(msg(slot(1, num(0)))), sub(msg(slot(1, num(1))))
	for _, c := range []struct {
		name    string
		x, want api.Msg
	}{
		{"nothing", msg(), msg()},
		{"a number", msg(slot(1, num(5))), msg(slot(1, num(5)))},
		{"below 0", msg(slot(1, num(-5))), msg(slot(1, num(-5)))},
		{"a default number", msg(slot(1, num(0))), msg()},
		{"an enum's default", msg(slot(8, num(0))), msg()},
		{"an enum's number", msg(slot(8, num(-1))), msg(slot(8, num(-1)))},
		{"defaults among others", msg(slot(1, num(0)), slot(2, num(1)), slot(8, num(0)), slot(12, num(7))), msg(slot(2, num(1)), slot(12, num(7)))},
		{"a default text", msg(slot(13, sub(msg(slot(14, str("")))))), msg(slot(13, sub(msg())))},
		{"slots in order", msg(slot(1, num(5)), slot(2, num(1)), slot(5, str("a")), slot(8, num(9))), msg(slot(1, num(5)), slot(2, num(1)), slot(5, str("a")), slot(8, num(9)))},
		{"slots in another order", msg(slot(12, num(3)), slot(2, num(1)), slot(8, num(9)), slot(1, num(5)), slot(4, str("a"))), msg(slot(1, num(5)), slot(2, num(1)), slot(4, str("a")), slot(8, num(9)), slot(12, num(3)))},
		{"no values, repeated", msg(slot(2), slot(1, num(5)), slot(9)), msg(slot(1, num(5)))},
		{"no values, of a map", msg(slot(3), slot(10)), msg()},
		{"one default value, repeated", msg(slot(2, num(0))), msg(slot(2, num(0)))},
		{"default values, repeated, their order stays", msg(slot(2, num(1), num(0), num(0), num(1))), msg(slot(2, num(1), num(0), num(0), num(1)))},
		{"one default value of a map", msg(pairs(10, nums(0), strs(""))), msg(pairs(10, nums(0), strs("")))},
		{"one default value in a oneof: a text", msg(slot(4, str(""))), msg(slot(4, str("")))},
		{"one default value in a oneof: bytes", msg(slot(5, str(""))), msg(slot(5, str("")))},
		{"one default value in a oneof: numbers", msg(slot(12, num(0))), msg(slot(12, num(0)))},
		{"an empty message", msg(slot(7, sub(msg()))), msg(slot(7, sub(msg())))},
		{"an empty message in a oneof", msg(slot(6, sub(msg()))), msg(slot(6, sub(msg())))},
		{"an empty message, repeated", msg(slot(9, sub(msg()))), msg(slot(9, sub(msg())))},
		{"a message that gets empty", msg(slot(7, zero)), msg(slot(7, sub(msg())))},
		{"messages that get empty, repeated", msg(slot(9, zero, a, zero)), msg(slot(9, sub(msg()), a, sub(msg())))},
		{"a message that gets empty, in a oneof", msg(slot(6, zero)), msg(slot(6, sub(msg())))},
		{"messages that get empty, of a map", msg(pairs(3, strs("b", "a"), vals(zero, a))), msg(pairs(3, strs("a", "b"), vals(a, sub(msg()))))},
		{"a key twice", msg(pairs(10, nums(1, 1), strs("a", "b"))), msg(pairs(10, nums(1), strs("b")))},
		{"a key twice, the last one default", msg(pairs(10, nums(1, 1), strs("a", ""))), msg(pairs(10, nums(1), strs("")))},
		{"a key three times", msg(pairs(10, nums(1, 1, 1), strs("c", "b", "a"))), msg(pairs(10, nums(1), strs("a")))},
		{"a key three times, others between", msg(pairs(10, nums(1, 2, 1, 0, 1, 2), strs("c", "d", "b", "e", "a", "f"))), msg(pairs(10, nums(0, 1, 2), strs("e", "a", "f")))},
		{"keys rising", msg(pairs(10, nums(-2, 0, 3), strs("a", "b", "c"))), msg(pairs(10, nums(-2, 0, 3), strs("a", "b", "c")))},
		{"keys falling, below 0 too", msg(pairs(10, nums(math.MaxInt64, 3, 0, -1, -2, math.MinInt64), strs("a", "b", "c", "d", "e", "f"))), msg(pairs(10, nums(math.MinInt64, -2, -1, 0, 3, math.MaxInt64), strs("f", "e", "d", "c", "b", "a")))},
		{"keys that are texts", msg(pairs(3, strs("b", "é", "", "ab", "a", "z", "B", "a\x00", "10", "9"), vals(a, a, zero, a, a, a, a, a, a, a))), msg(pairs(3, strs("", "10", "9", "B", "a", "a\x00", "ab", "b", "z", "é"), vals(sub(msg()), a, a, a, a, a, a, a, a, a)))},
		{"a text twice", msg(pairs(3, strs("b", "a", "b", "", "b", ""), vals(a, a, a, a, zero, zero))), msg(pairs(3, strs("", "a", "b"), vals(sub(msg()), a, sub(msg()))))},
		{"messages within messages", msg(slot(8, num(1)), slot(7, sub(msg(slot(2), slot(8, num(2)), slot(7, sub(msg(slot(12, num(0)), slot(1, num(0)), slot(2, num(0))))))))), msg(slot(7, sub(msg(slot(7, sub(msg(slot(2, num(0)), slot(12, num(0))))), slot(8, num(2))))), slot(8, num(1)))},
		{"messages within a map's values", msg(pairs(3, strs("b", "a", "b"), vals(a, sub(msg(slot(9), slot(2, num(1)), slot(1, num(0)))), sub(msg(pairs(3, strs("z", "z", "y"), vals(a, zero, zero))))))), msg(pairs(3, strs("a", "b"), vals(sub(msg(slot(2, num(1)))), sub(msg(pairs(3, strs("y", "z"), vals(sub(msg()), sub(msg()))))))))},
		{"messages within repeated ones", msg(slot(9, sub(msg(slot(8, num(1)), slot(1, num(1)))), zero)), msg(slot(9, sub(msg(slot(1, num(1)), slot(8, num(1)))), sub(msg())))},
		{"a message within a oneof", msg(slot(6, sub(msg(slot(8, num(0)), slot(6, zero))))), msg(slot(6, sub(msg(slot(6, sub(msg()))))))},
		{"a message of another message", msg(slot(13, sub(msg(slot(14, str("s")), slot(1, num(1)))))), msg(slot(13, sub(msg(slot(1, num(1)), slot(14, str("s"))))))},
	} {
		n, ok := typed.Normal(s, 0, c.x)
		if !ok || text(n) != text(c.want) {
			t.Errorf("%s: %s, %t, not %s", c.name, text(n), ok, text(c.want))
		}
		if got, want := typed.Is(s, 0, c.x), text(c.x) == text(c.want); got != want {
			t.Errorf("%s: Is is %t", c.name, got)
		}
		if !typed.Is(s, 0, c.want) {
			t.Errorf("%s: what is normal is not", c.name)
		}
		hold(t, s, 0, c.x)
		hold(t, s, 0, c.want)
	}
}

// P10.1, P10.2: the chapter's example: a slot of int64 with 0 is of its message; Normal has it not.
func TestChapterExample(t *testing.T) {
	s := read(t, "message A { int64 a = 1; }")
	x := msg(slot(1, num(0)))
	n, ok := typed.Normal(s, 0, x)
	if !typed.May(s, 0, x) || !ok || len(n.F) != 0 || typed.Is(s, 0, x) || !typed.Is(s, 0, n) {
		t.Errorf("%s, %t", text(n), ok)
	}
}

// P10.2: one default value of each kind, in each form: only that of a field that is neither repeated, nor a map, nor in a oneof, nor a Sub, is left away.
func TestNormalDefaults(t *testing.T) {
	s := whole()
	for m := range s.M {
		for _, f := range s.M[m].F {
			x := msg(right(f))
			n, ok := typed.Normal(s, m, x)
			stays := f.Rep || f.Key != api.NoKey || f.One != 0 || f.Kind == api.Sub
			if !ok || len(n.F) == 1 != stays || typed.Is(s, m, x) != stays {
				t.Errorf("field %d of message %d: %s, %t", f.No, m, text(n), ok)
			}
			hold(t, s, m, x)
		}
	}
}

// P10.2: values that are all but default are told.
func TestNormalNearlyDefault(t *testing.T) {
	s := whole()
	for kind := range api.Sub {
		l := nums(1)
		switch kind {
		case api.Text, api.Raw:
			l = strs("\x00", " ", "0", "a", "\uFFFD")
		case api.Int, api.Sint, api.Fix8:
			l = nums(1, -1, 1<<31, 1<<32, 1<<40, math.MinInt64, math.MaxInt64)
		case api.Enum:
			l = nums(1, -1, -1<<31, 1<<31-1)
		case api.Uint, api.Fix4:
			l = nums(1, 1<<31, 1<<32-1)
		}
		for _, v := range l {
			if x := msg(slot(alone+kind, v)); !typed.Is(s, forms, x) {
				t.Errorf("kind %d: %s is not normal", kind, text(x))
			}
		}
	}
}

// ordersOf are all orders of places.
func ordersOf(many int) [][]int {
	if many == 0 {
		return [][]int{nil}
	}
	var out [][]int
	for _, l := range ordersOf(many - 1) {
		for at := range many {
			out = append(out, slices.Insert(slices.Clone(l), at, many-1))
		}
	}
	return out
}

// P10.2: slots in all orders are one message, of which only the one by rising numbers is normal.
func TestNormalOrders(t *testing.T) {
	s := whole()
	slots := []api.Slot{slot(1, num(5)), slot(8, str("t")), slot(repeated+api.Flag, nums(1, 0)...), slot(10, sub(msg())), slot(30, sub(msg(slot(api.MaxNo, str("z")), slot(1, num(1))))), slot(25, num(0))}
	sorted := msg(slot(1, num(5)), slot(8, str("t")), slot(10, sub(msg())), slot(repeated+api.Flag, nums(1, 0)...), slot(25, num(0)), slot(30, sub(msg(slot(1, num(1)), slot(api.MaxNo, str("z"))))))
	for _, order := range ordersOf(len(slots)) {
		var x api.Msg
		for _, i := range order {
			x.F = append(x.F, slots[i])
		}
		if n, ok := typed.Normal(s, forms, x); !ok || text(n) != text(sorted) {
			t.Fatalf("%v: %s, %t", order, text(n), ok)
		}
		if typed.Is(s, forms, x) {
			t.Fatalf("%v is normal", order)
		}
	}
	for _, order := range ordersOf(5) {
		var x api.Msg
		for _, i := range order {
			x.F = append(x.F, sorted.F[i])
		}
		if typed.Is(s, forms, x) != slices.IsSorted(order) {
			t.Fatalf("%v", order)
		}
	}
}

// P10.2: a map's entries in all orders, of each key's kind: keys rise, of one key the last one stays.
func TestNormalEntries(t *testing.T) {
	s := whole()
	for i, kind := range keyKinds {
		keys := map[int][]api.Val{
			api.Int:  nums(math.MinInt64, -1, 0, 1<<32, math.MaxInt64),
			api.Sint: nums(-1<<40, -2, -1, 0, 3),
			api.Uint: nums(0, 1, 2, 1<<31, 1<<32-1),
			api.Flag: nums(0, 1),
			api.Fix4: nums(0, 9, 10, 1<<31, 1<<32-1),
			api.Fix8: nums(math.MinInt64, -10, -9, 5, 1<<62),
			api.Text: strs("", "a", "a\x00", "b", "é"),
		}[kind]
		for _, order := range ordersOf(len(keys)) {
			for again := range keys {
				x := pairs(byKey+i, nil, nil)
				for _, k := range append(slices.Clone(order), again, order[0]) {
					x.K = append(x.K, keys[k])
					x.V = append(x.V, sub(msg(slot(alone, num(int64(len(x.V)))))))
				}
				n, ok := typed.Normal(s, maps, msg(x))
				if !ok || valsText(n.F[0].K) != valsText(keys) {
					t.Fatalf("kind %d: %s, %t", kind, text(n), ok)
				}
				hold(t, s, maps, msg(x))
				hold(t, s, maps, msg(pairs(byKey+i, x.K[:len(keys)], x.V[:len(keys)])))
			}
		}
	}
}

// P10.2: lists of two and three values of each repeated field stay as they are.
func TestNormalRepeated(t *testing.T) {
	s := whole()
	for kind := range api.Kinds {
		l := nums(0, 1)
		switch kind {
		case api.Text, api.Raw:
			l = strs("", "a")
		case api.Sub:
			l = vals(sub(msg()), sub(msg(pairs(textToAny, strs("k"), nums(0)))))
		}
		for i := range 8 {
			x := msg(slot(repeated+kind, l[i&1], l[i>>1&1], l[i>>2]))
			if n, ok := typed.Normal(s, forms, x); !ok || text(n) != text(x) || !typed.Is(s, forms, x) {
				t.Errorf("kind %d: %s, %t", kind, text(n), ok)
			}
		}
	}
}

// P10.2: what is normal on all levels but the deepest one is not normal.
func TestIsDeep(t *testing.T) {
	s := read(t, small)
	for i, around := range arounds() {
		for _, deep := range []int{1, 2, 3, 10, 63, 64} {
			for _, last := range []api.Msg{msg(), msg(slot(1, num(1))), msg(slot(1, num(0))), msg(slot(2)), msg(slot(8, num(1)), slot(1, num(1))), msg(pairs(10, nums(2, 1), strs("", ""))), msg(pairs(10, nums(1, 1), strs("a", "a")))} {
				x := nest(deep, last, around)
				hold(t, s, 0, x)
				n, ok := typed.Normal(s, 0, x)
				if !ok || wantDeep(n) > deep {
					t.Fatalf("%d: %s, %t", i, text(n), ok)
				}
			}
		}
	}
}

// P10.2, R3: lists that are handed in several times are given as lists of their own.
func TestNormalShared(t *testing.T) {
	s := read(t, small)
	one := []api.Msg{msg(slot(1, num(1)))}
	l := vals(api.Val{M: one}, api.Val{M: one})
	keys := append(make([]api.Val, 0, 9), strs("b", "a")...)
	in := api.Msg{F: append(make([]api.Slot, 0, 9), slot(9, l...), pairs(3, keys, l), slot(7, l[0]), slot(2, append(make([]api.Val, 0, 5), nums(1, 0)...)...))}
	hold(t, s, 0, in)
	sorted, _ := typed.Normal(s, 0, in)
	again := msg(slices.Concat(sorted.F, []api.Slot{slot(6, sub(sorted)), slot(8, num(1))})...)
	hold(t, s, 0, again)
	for i, x := range in.F[:cap(in.F)] {
		if i >= 4 && (x.No != 0 || x.K != nil || x.V != nil) {
			t.Fatalf("place %d of what was handed in is changed", i)
		}
	}
	for i, k := range keys[:cap(keys)] {
		if want := []string{"b", "a", "", "", "", "", "", "", ""}[i]; k.S != want || k.N != 0 || k.M != nil {
			t.Fatalf("key %d of what was handed in is changed", i)
		}
	}
}

// scramble changes all that can be reached from a message.
func scramble(m api.Msg) {
	for i := range m.F {
		s := &m.F[i]
		for _, l := range [][]api.Val{s.K, s.V} {
			for k := range l {
				for _, x := range l[k].M {
					scramble(x)
				}
				for n := range l[k].M {
					l[k].M[n] = api.Msg{}
				}
				l[k] = api.Val{N: -77, S: "changed"}
			}
		}
		*s = api.Slot{No: -77}
	}
}

// P10.2, R3: later changes to what was handed in, or to what is told, change nothing of the other.
func TestNormalStays(t *testing.T) {
	s := whole()
	chance := rand.New(rand.NewPCG(10, 3))
	for range 300 {
		for m := range s.M {
			x := someMsg(chance, s, m, 4)
			was := text(x)
			n, _ := typed.Normal(s, m, x)
			told := text(n)
			scramble(n)
			if text(x) != was {
				t.Fatalf("%s is changed to %s", was, text(x))
			}
			n, _ = typed.Normal(s, m, x)
			scramble(x)
			if text(n) != told {
				t.Fatalf("%s is changed to %s", told, text(n))
			}
		}
	}
}

// P10.1, P10.2, R3: the schema stays as it was.
func TestSchemaStays(t *testing.T) {
	s := whole()
	chance := rand.New(rand.NewPCG(10, 4))
	for range 50 {
		for m := range s.M {
			x := someMsg(chance, s, m, 4)
			typed.Val(s, api.Sub, m, sub(x))
			typed.May(s, m, x)
			typed.Normal(s, m, x)
			typed.Is(s, m, x)
		}
	}
	if !table.Same(s, whole()) {
		t.Errorf("the schema is changed to %+v", s)
	}
}

// someOf is some value of a kind that is of it.
func someOf(chance *rand.Rand, s api.Schema, kind, ref, deep int) api.Val {
	switch kind {
	case api.Text:
		return str([]string{"", "a", "b", "é"}[chance.IntN(4)])
	case api.Raw:
		return str([]string{"", "a", "\xff", "\x00"}[chance.IntN(4)])
	case api.Sub:
		return sub(someMsg(chance, s, ref, deep-1))
	}
	least, greatest := limits(kind)
	for {
		n := []int64{0, 0, 0, 1, 1, -1, 2, 1<<31 - 1, -1 << 31, 1<<32 - 1, math.MinInt64, math.MaxInt64}[chance.IntN(12)]
		if least <= n && n <= greatest {
			return num(n)
		}
	}
}

// someMsg is some message of message m, seldom normal, of at most so many levels.
func someMsg(chance *rand.Rand, s api.Schema, m, deep int) api.Msg {
	var x api.Msg
	ones := map[int]bool{}
	for _, i := range chance.Perm(len(s.M[m].F)) {
		f := s.M[m].F[i]
		if chance.IntN(4) > 0 || f.Kind == api.Sub && deep == 1 || f.One > 0 && ones[f.One] {
			continue
		}
		ones[f.One] = true
		many := 1
		if f.Rep || f.Key != api.NoKey {
			many = chance.IntN(4)
		}
		slot := api.Slot{No: f.No}
		for range many {
			slot.V = append(slot.V, someOf(chance, s, f.Kind, f.Ref, deep))
			if f.Key != api.NoKey {
				slot.K = append(slot.K, someOf(chance, s, f.Key, 0, deep))
			}
		}
		x.F = append(x.F, slot)
	}
	return x
}

// P10.3: Normal of what Normal gave is the same, and may be; and all else, of any message that may be.
func TestNormalByChance(t *testing.T) {
	s := whole()
	chance := rand.New(rand.NewPCG(10, 1))
	for range 500 {
		for m := range s.M {
			x := someMsg(chance, s, m, 4)
			if !typed.May(s, m, x) {
				t.Fatalf("%s may not be", text(x))
			}
			hold(t, s, m, x)
			n, _ := typed.Normal(s, m, x)
			hold(t, s, m, n)
			for _, other := range []int{forms, maps, few, none} {
				hold(t, s, other, n)
			}
		}
	}
}

// valChanges are those of a value: of each part of it, on all levels.
func valChanges(v *api.Val, where string) []change {
	out := []change{
		{where + ".N 0", func() { v.N = 0 }},
		{where + ".N 1", func() { v.N = 1 }},
		{where + ".N less", func() { v.N-- }},
		{where + ".N beyond 32 bits", func() { v.N += 1 << 32 }},
		{where + ".S none", func() { v.S = "" }},
		{where + ".S longer", func() { v.S += "z" }},
		{where + ".S no UTF-8", func() { v.S += "\xff" }},
		{where + ".M longer", func() { v.M = append(slices.Clone(v.M), msg()) }},
		{where + ".M none", func() { v.M = nil }},
		{where + " nothing", func() { *v = api.Val{} }},
	}
	for i := range v.M {
		out = append(out, changes(&v.M[i], fmt.Sprintf("%s.M[%d]", where, i))...)
	}
	return out
}

// change is one of a message, where it stands.
type change struct {
	what string
	do   func()
}

// listChanges are those of a list of values.
func listChanges(l *[]api.Val, where string) []change {
	out := []change{{where + " longer", func() { *l = append(slices.Clone(*l), api.Val{}) }}, {where + " none", func() { *l = nil }}}
	if len(*l) > 0 {
		out = append(out,
			change{where + " without the first", func() { *l = (*l)[1:] }},
			change{where + " without the last", func() { *l = (*l)[:len(*l)-1] }},
			change{where + " the first twice", func() { *l = append(slices.Clone(*l), (*l)[0]) }},
			change{where + " backwards", func() { slices.Reverse(*l) }})
	}
	for i := range *l {
		out = append(out, valChanges(&(*l)[i], fmt.Sprintf("%s[%d]", where, i))...)
	}
	return out
}

// changes are of each part of a message, on all levels.
func changes(m *api.Msg, where string) []change {
	out := []change{
		{where + ".F backwards", func() { slices.Reverse(m.F) }},
		{where + ".F longer", func() { m.F = append(slices.Clone(m.F), slot(1, num(1))) }},
		{where + ".F with none's", func() { m.F = append(slices.Clone(m.F), slot(0)) }},
		{where + ".F with one in a oneof", func() { m.F = append(slices.Clone(m.F), slot(inOne+api.Int, num(0))) }},
	}
	for i := range m.F {
		s, at := &m.F[i], fmt.Sprintf("%s.F[%d]", where, i)
		out = append(out,
			change{at + ".No more", func() { s.No++ }},
			change{at + ".No less", func() { s.No-- }},
			change{at + ".No 10 more", func() { s.No += 10 }},
			change{at + " twice", func() { m.F = append(slices.Clone(m.F), *s) }},
			change{at + " both", func() { s.K, s.V = s.V, s.K }})
		out = append(out, listChanges(&s.K, at+".K")...)
		out = append(out, listChanges(&s.V, at+".V")...)
	}
	return out
}

// P10.1 to P10.3: messages that may be, and each of them with some change.
func TestChangedByChance(t *testing.T) {
	s := whole()
	chance := rand.New(rand.NewPCG(10, 2))
	for range 2500 {
		m := chance.IntN(none)
		x := someMsg(chance, s, m, 3)
		l := changes(&x, "x")
		l[chance.IntN(len(l))].do()
		hold(t, s, m, x)
		if chance.IntN(2) == 0 {
			l = changes(&x, "x")
			l[chance.IntN(len(l))].do()
			hold(t, s, m, x)
		}
	}
}

// P10.1 to P10.3: a normal message of everything, with each change of it alone.
func TestChanged(t *testing.T) {
	s := read(t, small)
	everything := func() api.Msg {
		in := func(n int64) api.Val { return sub(msg(slot(1, num(n)), slot(2, nums(0, 1)...), slot(11, num(0)))) }
		return msg(
			slot(1, num(5)), slot(2, nums(1, 0)...), pairs(3, strs("", "k"), vals(in(1), sub(msg()))), slot(4, str("é")),
			slot(7, in(2)), slot(8, num(-1)), slot(9, in(3), sub(msg(slot(9, in(4))))), pairs(10, nums(-1, 0, 7), strs("\xff", "", "a")),
			slot(12, num(0)), slot(13, sub(msg(slot(1, num(1<<32-1)), slot(14, str("s"))))),
		)
	}
	if !typed.Is(s, 0, everything()) || value.Size(everything()) < 30 {
		t.Fatalf("%s is not normal", text(everything()))
	}
	for i := range changes(new(everything()), "") {
		x := everything()
		c := changes(&x, "x")[i]
		c.do()
		t.Run(c.what, func(t *testing.T) { hold(t, s, 0, x) })
	}
}
