package value_test

import (
	"math"
	"slices"
	"testing"

	"truffle/api"
	"truffle/value"
)

// wantGet is what P9.2 asks of Get.
func wantGet(m api.Msg, no int) (api.Slot, bool) {
	for _, s := range m.F {
		if s.No == no {
			return s, true
		}
	}
	return api.Slot{}, false
}

// wantSet is what P9.2 asks of Set.
func wantSet(m api.Msg, s api.Slot) api.Msg {
	var out []api.Slot
	pending := len(s.V) > 0
	for _, x := range m.F {
		if pending && x.No > s.No {
			out = append(out, s)
			pending = false
		}
		if x.No != s.No {
			out = append(out, x)
		}
	}
	if pending {
		out = append(out, s)
	}
	return api.Msg{F: out}
}

// holdGet holds Get against what P9.2 asks.
func holdGet(t *testing.T, m api.Msg, no int) {
	t.Helper()
	was := text(m)
	want, wantOK := wantGet(m, no)
	got, ok := value.Get(m, no)
	if ok != wantOK || slotText(got) != slotText(want) {
		t.Fatalf("Get of %s, %d, is %s, %t, not %s, %t", was, no, slotText(got), ok, slotText(want), wantOK)
	}
	if !ok && (got.K != nil || got.V != nil) {
		t.Fatalf("Get of %s, %d, is not zero", was, no)
	}
	holdOwn(t, slotLists(got), lists(m))
	if text(m) != was {
		t.Fatalf("Get changes %s to %s", was, text(m))
	}
}

// holdSet holds Set against what P9.2 and P9.4 ask, and that both stay as they were (R3).
func holdSet(t *testing.T, m api.Msg, s api.Slot) {
	t.Helper()
	was, wasSlot := text(m), slotText(s)
	want := wantSet(m, s)
	got := value.Set(m, s)
	if text(got) != text(want) {
		t.Fatalf("Set of %s, %s, is %s, not %s", was, wasSlot, text(got), text(want))
	}
	holdOwn(t, lists(got), lists(m), slotLists(s))
	if text(m) != was || slotText(s) != wasSlot {
		t.Fatalf("Set of %s, %s, changes them to %s, %s", was, wasSlot, text(m), slotText(s))
	}
	back, ok := value.Get(got, s.No)
	if ok != (len(s.V) > 0) || ok && slotText(back) != wasSlot {
		t.Fatalf("Set of %s, %s: %s, %t is got", was, wasSlot, slotText(back), ok)
	}
	isIts := func(x api.Slot) bool { return x.No == s.No }
	if others := slices.DeleteFunc(value.Own(got).F, isIts); text(msg(others...)) != text(msg(slices.DeleteFunc(slices.Clone(m.F), isIts)...)) {
		t.Fatalf("Set of %s, %s: the other slots are %s", was, wasSlot, text(msg(others...)))
	}
}

// orders are all lists of numbers from some, of at most so many.
func orders(some []int, most int) [][]int {
	out := [][]int{nil}
	if most > 0 {
		for _, l := range orders(some, most-1) {
			for _, no := range some {
				out = append(out, append(slices.Clone(l), no))
			}
		}
	}
	return out
}

// marked is a message of slots of these numbers, each of which has another value.
func marked(numbers []int) api.Msg {
	var m api.Msg
	for i, no := range numbers {
		m.F = append(m.F, []api.Slot{
			slot(no, num(int64(10+i))),
			pairs(no, vals(str("k"), str("l")), vals(num(int64(i)), sub(chain(2)))),
			pairs(no, vals(num(int64(i))), nil),
			slot(no),
		}[i%4])
	}
	return m
}

// P9.2: Get of a number that is there once, twice, not at all.
func TestGetExamples(t *testing.T) {
	m := msg(slot(5, num(1)), slot(2, num(2), num(3)), pairs(5, vals(str("k")), vals(num(4))), slot(7), slot(-3, num(5)))
	for _, c := range []struct {
		name string
		no   int
		want api.Slot
		ok   bool
	}{
		{"once", 2, slot(2, num(2), num(3)), true},
		{"twice: the first one", 5, slot(5, num(1)), true},
		{"without values", 7, slot(7), true},
		{"below 0", -3, slot(-3, num(5)), true},
		{"not at all", 4, api.Slot{}, false},
		{"not at all: 0", 0, api.Slot{}, false},
		{"not at all: as far below 0", -5, api.Slot{}, false},
		{"not at all: beyond 32 bits", 5 + 1<<32, api.Slot{}, false},
		{"not at all: the greatest one", math.MaxInt, api.Slot{}, false},
		{"not at all: the least one", math.MinInt, api.Slot{}, false},
	} {
		got, ok := value.Get(m, c.no)
		if ok != c.ok || slotText(got) != slotText(c.want) {
			t.Errorf("%s: %s, %t", c.name, slotText(got), ok)
		}
		holdGet(t, m, c.no)
	}
	if got, ok := value.Get(api.Msg{}, 0); ok || got.No != 0 || got.K != nil || got.V != nil {
		t.Errorf("of nothing: %s, %t", slotText(got), ok)
	}
	if got, ok := value.Get(msg(pairs(0, vals(num(1)), nil)), 0); !ok || len(got.K) != 1 {
		t.Errorf("number 0: %s, %t", slotText(got), ok)
	}
	deep, ok := value.Get(msg(slot(1, sub(msg(slot(2, num(9)))))), 2)
	if ok {
		t.Errorf("of a message within: %s", slotText(deep))
	}
}

// P9.2: Set of a number that is there once, several times, not at all, in slots in order and not, with and without values.
func TestSetExamples(t *testing.T) {
	three := slot(3, num(100))
	for _, c := range []struct {
		name string
		m    api.Msg
		s    api.Slot
		want api.Msg
	}{
		{"in nothing", msg(), three, msg(three)},
		{"no values, in nothing", msg(), slot(3), msg()},
		{"not there, ahead of all", msg(slot(4, num(1)), slot(5, num(2))), three, msg(three, slot(4, num(1)), slot(5, num(2)))},
		{"not there, between", msg(slot(1, num(1)), slot(5, num(2))), three, msg(slot(1, num(1)), three, slot(5, num(2)))},
		{"not there, behind all", msg(slot(1, num(1)), slot(2, num(2))), three, msg(slot(1, num(1)), slot(2, num(2)), three)},
		{"once, between", msg(slot(1, num(1)), slot(3, num(2), num(3)), slot(5, num(4))), three, msg(slot(1, num(1)), three, slot(5, num(4)))},
		{"once, alone", msg(slot(3, num(2))), three, msg(three)},
		{"twice", msg(slot(3, num(1)), slot(3, num(2)), slot(5, num(4))), three, msg(three, slot(5, num(4)))},
		{"twice, others between and behind", msg(slot(3, num(1)), slot(1, num(2)), slot(3, num(3)), slot(2, num(4))), three, msg(slot(1, num(2)), slot(2, num(4)), three)},
		{"once, ahead of less ones", msg(slot(3, num(1)), slot(2, num(2)), slot(1, num(3))), three, msg(slot(2, num(2)), slot(1, num(3)), three)},
		{"once, behind a greater one", msg(slot(9, num(1)), slot(3, num(2)), slot(1, num(3))), three, msg(three, slot(9, num(1)), slot(1, num(3)))},
		{"not in order: the first greater one counts", msg(slot(2, num(1)), slot(9, num(2)), slot(1, num(3)), slot(4, num(4))), three, msg(slot(2, num(1)), three, slot(9, num(2)), slot(1, num(3)), slot(4, num(4)))},
		{"no values: once", msg(slot(1, num(1)), slot(3, num(2)), slot(5, num(3))), slot(3), msg(slot(1, num(1)), slot(5, num(3)))},
		{"no values, but keys: three times", msg(slot(3, num(1)), slot(5, num(3)), slot(3, num(1)), slot(3)), pairs(3, vals(num(1)), vals()), msg(slot(5, num(3)))},
		{"no values: not there", msg(slot(5, num(1)), slot(4)), slot(3), msg(slot(5, num(1)), slot(4))},
		{"values, but no keys", msg(pairs(3, vals(str("k")), vals(num(1)))), three, msg(three)},
		{"keys and values", msg(slot(4)), pairs(3, vals(str("k")), vals(num(1), num(2))), msg(pairs(3, vals(str("k")), vals(num(1), num(2))), slot(4))},
		{"a default value", msg(slot(3, num(1))), slot(3, num(0)), msg(slot(3, num(0)))},
		{"others without values, and twice, stay", msg(slot(4), slot(2), slot(4, num(1)), slot(2, num(1))), three, msg(three, slot(4), slot(2), slot(4, num(1)), slot(2, num(1)))},
		{"below 0", msg(slot(-5, num(1)), slot(0, num(2))), slot(-3, num(3)), msg(slot(-5, num(1)), slot(-3, num(3)), slot(0, num(2)))},
		{"the least one", msg(slot(math.MaxInt, num(1))), slot(math.MinInt, num(2)), msg(slot(math.MinInt, num(2)), slot(math.MaxInt, num(1)))},
		{"the greatest one", msg(slot(math.MinInt, num(1)), slot(-1, num(1))), slot(math.MaxInt, num(2)), msg(slot(math.MinInt, num(1)), slot(-1, num(1)), slot(math.MaxInt, num(2)))},
		{"a zero one", msg(slot(0, num(1)), slot(1, num(1))), api.Slot{}, msg(slot(1, num(1)))},
		{"one within stays", msg(slot(4, sub(msg(slot(3, num(1)))))), slot(3), msg(slot(4, sub(msg(slot(3, num(1))))))},
	} {
		if got := value.Set(c.m, c.s); text(got) != text(c.want) {
			t.Errorf("%s: %s, not %s", c.name, text(got), text(c.want))
		}
		holdSet(t, c.m, c.s)
	}
}

// P9.2, P9.4: Get and Set of slots of few numbers in all orders: what is set is got, other slots stay.
func TestGetSetOrders(t *testing.T) {
	for _, l := range orders([]int{-1, 1, 2, 3}, 4) {
		m := marked(l)
		for no := -2; no <= 4; no++ {
			holdGet(t, m, no)
			for _, s := range []api.Slot{
				slot(no, num(77)),
				slot(no),
				pairs(no, vals(str("x")), nil),
				pairs(no, vals(str("x"), str("y")), vals(num(0), sub(chain(2)))),
			} {
				holdSet(t, m, s)
			}
		}
	}
}

// P9.2, R3: what is got stays when any part of the message is changed, and the other way about.
func TestGetStays(t *testing.T) {
	for _, no := range []int{1, 2, 3, 9, -4} {
		was := text(whole())
		first, _ := value.Get(whole(), no)
		wasSlot := slotText(first)
		for i := range changes(new(whole()), "") {
			m := whole()
			got, _ := value.Get(m, no)
			c := changes(&m, "m")[i]
			c.do()
			if slotText(got) != wasSlot {
				t.Fatalf("%s: slot %d is changed to %s", c.what, no, slotText(got))
			}
		}
		for i := range slotChanges(&first, "") {
			m := whole()
			got, _ := value.Get(m, no)
			c := slotChanges(&got, "got")[i]
			c.do()
			if text(m) != was {
				t.Fatalf("%s: the message is changed to %s", c.what, text(m))
			}
		}
	}
}

// P9.2, R3: what Set answers stays when any part of what was handed in is changed, and the other way about.
func TestSetStays(t *testing.T) {
	in := func() (api.Msg, api.Slot) {
		m, s := whole(), whole().F[4]
		m.F[4].No, s.No = 8, 2
		return m, s
	}
	m, s := in()
	was := text(wantSet(m, s))
	for i := range len(changes(&m, "")) + len(slotChanges(&s, "")) {
		m, s := in()
		got := value.Set(m, s)
		c := append(changes(&m, "m"), slotChanges(&s, "s")...)[i]
		c.do()
		if text(got) != was {
			t.Fatalf("%s: what is set is changed to %s", c.what, text(got))
		}
	}
	first := value.Set(m, s)
	wasM, wasS := text(m), slotText(s)
	for i := range changes(&first, "") {
		got := value.Set(m, s)
		c := changes(&got, "got")[i]
		c.do()
		if text(m) != wasM || slotText(s) != wasS {
			t.Fatalf("%s: what was handed in is changed to %s, %s", c.what, text(m), slotText(s))
		}
	}
}

// P9.2, R3: a slot of the message itself, and lists with room behind them, may be handed in.
func TestSetShared(t *testing.T) {
	m := whole()
	for _, s := range m.F {
		holdSet(t, m, s)
		s.No += 2
		holdSet(t, m, s)
	}
	f := append(make([]api.Slot, 0, 8), slot(1, num(1)), slot(2, num(2)), slot(4, num(4)))
	room := api.Msg{F: f}
	for no := range 6 {
		holdSet(t, room, slot(no, num(9)))
		holdSet(t, room, slot(no))
		holdSet(t, api.Msg{F: f[:1]}, slot(no, num(9)))
	}
	for i, s := range f[:cap(f)] {
		if want := []int{1, 2, 4, 0, 0, 0, 0, 0}[i]; s.No != want || len(s.V) != min(want, 1) {
			t.Fatalf("place %d of what was handed in is %s", i, slotText(s))
		}
	}
}

// P9.4: slots that are set one by one are all got, by rising numbers, in whatever order they are set.
func TestSetAll(t *testing.T) {
	for _, l := range orders([]int{-2, 0, 1, 5, 536870911}, 5) {
		var m api.Msg
		last := map[int]int64{}
		for i, no := range l {
			m = value.Set(m, slot(no, num(int64(i))))
			last[no] = int64(i)
		}
		if len(m.F) != len(last) || !slices.IsSortedFunc(m.F, func(a, b api.Slot) int { return a.No - b.No }) {
			t.Fatalf("%v: %s", l, text(m))
		}
		for no, n := range last {
			if got, ok := value.Get(m, no); !ok || len(got.V) != 1 || got.V[0].N != n {
				t.Fatalf("%v: of %d %s, %t is got", l, no, slotText(got), ok)
			}
		}
	}
}

// wantLess is what P9.3 asks.
func wantLess(a, b api.Val) bool {
	if a.N != b.N {
		return a.N < b.N
	}
	for i := range min(len(a.S), len(b.S)) {
		if x, y := int(a.S[i]), int(b.S[i]); x != y {
			return x < y
		}
	}
	return len(a.S) < len(b.S)
}

// P9.3: Less of values by their numbers, and of one number by their texts.
func TestLessExamples(t *testing.T) {
	both := func(n int64, s string) api.Val { return api.Val{N: n, S: s} }
	for _, c := range []struct {
		name string
		a, b api.Val
		want bool
	}{
		{"the same", num(1), num(1), false},
		{"nothing", api.Val{}, api.Val{}, false},
		{"numbers", num(1), num(2), true},
		{"numbers, the other way", num(2), num(1), false},
		{"below 0, and 0", num(-1), num(0), true},
		{"0, and below 0", num(0), num(-1), false},
		{"both below 0", num(-2), num(-1), true},
		{"below 0, and above", num(-1), num(1), true},
		{"from one end to the other", num(math.MinInt64), num(math.MaxInt64), true},
		{"from the other end", num(math.MaxInt64), num(math.MinInt64), false},
		{"beyond 32 bits", num(1 << 32), num(1), false},
		{"texts", str("a"), str("b"), true},
		{"texts, the other way", str("b"), str("a"), false},
		{"the same texts", str("ab"), str("ab"), false},
		{"no text", str(""), str("a"), true},
		{"a text, and none", str("a"), str(""), false},
		{"a text that is the other one's beginning", str("a"), str("ab"), true},
		{"a beginning, the other way", str("ab"), str("a"), false},
		{"a beginning, and a zero byte", str("a"), str("a\x00"), true},
		{"a shorter one that is not less", str("b"), str("ab"), false},
		{"a longer one that is less", str("ab"), str("b"), true},
		{"bytes above 127", str("\x7f"), str("\x80"), true},
		{"bytes above 127, the other way", str("\xff"), str("a"), false},
		{"a sign of two bytes", str("z"), str("\u00e9"), true},
		{"great and small letters", str("Z"), str("a"), true},
		{"digits are bytes", str("10"), str("9"), true},
		{"the number counts ahead of the text", both(1, "z"), both(2, "a"), true},
		{"the number counts, the other way", both(2, "a"), both(1, "z"), false},
		{"the number counts ahead of no text", both(1, "a"), both(2, ""), true},
		{"one number, below 0, and texts", both(-1, "a"), both(-1, "b"), true},
		{"one number, below 0, and texts, the other way", both(-1, "b"), both(-1, "a"), false},
		{"messages do not count", sub(), sub(msg()), false},
		{"messages do not count, the other way", sub(chain(2), msg()), sub(msg()), false},
		{"messages do not count against a number", sub(msg(), msg()), num(1), true},
	} {
		if got := value.Less(c.a, c.b); got != c.want {
			t.Errorf("%s: %t", c.name, got)
		}
	}
}

// P9.3: Less of numbers and texts at all edges, each with each.
func TestLessAll(t *testing.T) {
	texts := []string{"", "\x00", "\x00\x00", "a", "a\x00", "aa", "ab", "b", "B", "\x7f", "\x80", "\x80a", "\xff", "\xff\x00", "\u00e9", "\uFFFD", "\U0001F600", "ab\xff", "ab\x00c"}
	var all []api.Val
	for _, n := range []int64{math.MinInt64, math.MinInt64 + 1, -1 << 32, -2, -1, 0, 1, 2, 1 << 31, 1 << 32, math.MaxInt64 - 1, math.MaxInt64} {
		for _, s := range texts {
			all = append(all, api.Val{N: n, S: s})
		}
	}
	for i := range 256 {
		all = append(all, str(string([]byte{byte(i)})))
	}
	for _, a := range all {
		for _, b := range all {
			if got := value.Less(a, b); got != wantLess(a, b) {
				t.Fatalf("Less of %s is %t", valsText(vals(a, b)), got)
			}
		}
	}
}
