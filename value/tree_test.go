package value_test

import (
	"math"
	"math/rand/v2"
	"testing"

	"truffle/api"
	"truffle/value"
)

// manyDeep is how many parts may stand within one another, beyond which nothing is promised.
const manyDeep = 1 << 16

// holdSame holds Same against what P9.1 asks, both ways.
func holdSame(t *testing.T, what string, a, b api.Msg) {
	t.Helper()
	want := text(a) == text(b)
	if value.Same(a, b) != want || value.Same(b, a) != want {
		t.Fatalf("%s: Same of %s and %s is not %t", what, text(a), text(b), want)
	}
}

// holdTree holds Deep, Size, Own and Same of a message against what P9.1 asks, and that it stays as it was (R3).
func holdTree(t *testing.T, m api.Msg) {
	t.Helper()
	was := text(m)
	deep, size := wantDeepSize(m)
	if got := value.Deep(m); got != deep {
		t.Fatalf("Deep of %s is %d, not %d", was, got, deep)
	}
	if got := value.Size(m); got != size {
		t.Fatalf("Size of %s is %d, not %d", was, got, size)
	}
	own := value.Own(m)
	if text(own) != was {
		t.Fatalf("Own of %s is %s", was, text(own))
	}
	if !value.Same(m, m) || !value.Same(m, own) || !value.Same(own, m) {
		t.Fatalf("%s is not the same as itself", was)
	}
	holdOwn(t, lists(own), lists(m))
	if text(m) != was {
		t.Fatalf("%s is changed to %s", was, text(m))
	}
}

// P9.1: Deep and Size of ordinary messages, empty ones, values in K alone, V alone and both, each message in M, and trees whose deepest branch stands anywhere.
func TestDeepSizeExamples(t *testing.T) {
	leaf := msg(slot(1, num(1)))
	for _, c := range []struct {
		name       string
		m          api.Msg
		deep, size int
	}{
		{"nothing", api.Msg{}, 1, 0},
		{"an empty list of slots", api.Msg{F: []api.Slot{}}, 1, 0},
		{"one slot of two numbers", msg(slot(1, num(5), num(6))), 1, 2},
		{"a slot without values", msg(slot(1)), 1, 0},
		{"empty lists of values", msg(pairs(1, vals(), vals())), 1, 0},
		{"values in K alone", msg(pairs(1, vals(num(1), num(2), num(3)), nil)), 1, 3},
		{"values in both, not as many", msg(pairs(1, vals(num(1)), vals(num(2), num(3)))), 1, 3},
		{"two slots, one number", msg(slot(1, num(1)), slot(1, num(1), num(2))), 1, 3},
		{"no messages in M", msg(slot(1, sub())), 1, 1},
		{"one message in M, of nothing", msg(slot(1, sub(msg()))), 2, 1},
		{"one message in M", msg(slot(1, sub(leaf))), 2, 2},
		{"three messages in M", msg(slot(1, sub(leaf, leaf, leaf))), 2, 4},
		{"the first one in M is deepest", msg(slot(1, sub(chain(3), leaf))), 4, 4},
		{"the last one in M is deepest", msg(slot(1, sub(leaf, chain(3)))), 4, 4},
		{"the one in the middle is deepest", msg(slot(1, sub(leaf, chain(4), leaf))), 5, 6},
		{"a message in K", msg(pairs(1, vals(sub(leaf)), nil)), 2, 2},
		{"messages in K and V", msg(pairs(1, vals(sub(leaf)), vals(sub(leaf)))), 2, 4},
		{"K is deeper", msg(pairs(1, vals(sub(chain(3))), vals(sub(leaf)))), 4, 5},
		{"V is deeper", msg(pairs(1, vals(sub(leaf)), vals(sub(chain(3))))), 4, 5},
		{"the first slot is deepest", msg(slot(1, sub(chain(5))), slot(2, sub(leaf)), slot(3, num(1))), 6, 8},
		{"the last slot is deepest", msg(slot(1, num(1)), slot(2, sub(leaf)), slot(3, sub(chain(5)))), 6, 8},
		{"the first value is deepest", msg(slot(1, sub(chain(2)), sub(leaf), num(1))), 3, 5},
		{"the last value is deepest", msg(slot(1, num(1), sub(msg()), sub(chain(2)))), 3, 4},
		{"the deepest one in K of one in K", msg(pairs(1, vals(sub(msg(pairs(1, vals(sub(leaf)), vals(num(1)))))), vals(num(1), num(2)))), 3, 6},
		{"the last of K, and none in V", msg(pairs(1, vals(num(0), sub(chain(2))), vals(num(0), num(0)))), 3, 5},
		{"64 deep", chain(64), 64, 63},
		{"65 deep", chain(65), 65, 64},
		{"everything", whole(), 4, 42},
	} {
		if got := value.Deep(c.m); got != c.deep {
			t.Errorf("%s: Deep is %d, not %d", c.name, got, c.deep)
		}
		if got := value.Size(c.m); got != c.size {
			t.Errorf("%s: Size is %d, not %d", c.name, got, c.size)
		}
		holdTree(t, c.m)
	}
}

// P9.1: Same of small messages, each with each, on several levels.
func TestSameSmall(t *testing.T) {
	l := smallMessages()
	texts := make([]string, len(l))
	for i, m := range l {
		texts[i] = text(m)
		holdTree(t, m)
	}
	for i, a := range l {
		for k, b := range l {
			if want := texts[i] == texts[k]; value.Same(a, b) != want {
				t.Fatalf("Same of %s and %s is not %t", texts[i], texts[k], want)
			}
		}
	}
}

// P9.1: messages that differ in each part alone are not the same.
func TestSameChanged(t *testing.T) {
	for i := range changes(new(whole()), "") {
		m := whole()
		c := changes(&m, "m")[i]
		c.do()
		if text(m) == text(whole()) {
			t.Fatalf("%s: nothing is changed", c.what)
		}
		holdSame(t, c.what, m, whole())
		holdTree(t, m)
	}
}

// P9.1: what Same asks of numbers and texts is all of them.
func TestSameValues(t *testing.T) {
	for _, c := range []struct {
		name string
		a, b api.Val
	}{
		{"numbers that differ in the highest bit", num(0), num(math.MinInt64)},
		{"numbers that differ beyond 32 bits", num(1), num(1 + 1<<32)},
		{"numbers at both ends", num(math.MaxInt64), num(math.MinInt64)},
		{"a text that is the other one's beginning", str("a"), str("ab")},
		{"a text that ends by a zero byte", str("a"), str("a\x00")},
		{"a text of another case", str("a"), str("A")},
		{"texts that are no UTF-8", str("\xff"), str("\xfe")},
		{"a text that is no UTF-8, and the sign for it", str("\xff"), str("\uFFFD")},
		{"a sign, and one with its accent apart", str("\u00e9"), str("e\u0301")},
		{"a number, and none", num(0), api.Val{N: 0, S: "0"}},
		{"a message in M, and none", sub(msg()), sub()},
		{"as many values, not as many messages", sub(msg(), msg()), sub(msg())},
	} {
		holdSame(t, c.name+", in V", msg(slot(1, c.a)), msg(slot(1, c.b)))
		holdSame(t, c.name+", in K", msg(pairs(1, vals(c.a), nil)), msg(pairs(1, vals(c.b), nil)))
		holdSame(t, c.name+", in a second message", msg(slot(1, sub(msg(), msg(slot(1, c.a))))), msg(slot(1, sub(msg(), msg(slot(1, c.b))))))
	}
	holdSame(t, "K and V against one another", msg(pairs(1, vals(num(1)), vals(num(2)))), msg(pairs(1, vals(num(2)), vals(num(1)))))
	holdSame(t, "values of K in V", msg(pairs(1, vals(num(1)), nil)), msg(slot(1, num(1))))
	holdSame(t, "two slots, and one of all values", msg(slot(1, num(1)), slot(1, num(2))), msg(slot(1, num(1), num(2))))
	holdSame(t, "two messages, and one of all slots", msg(slot(1, sub(msg(slot(1)), msg(slot(2))))), msg(slot(1, sub(msg(slot(1), slot(2))))))
	holdSame(t, "slots in another order", msg(slot(1), slot(2)), msg(slot(2), slot(1)))
	holdSame(t, "numbers of slots beyond 32 bits", msg(slot(1)), msg(slot(1+1<<32)))
}

// P9.1, R6: a list without elements may be nil or empty.
func TestSameNil(t *testing.T) {
	none := msg(pairs(1, nil, nil), slot(2, api.Val{M: nil}))
	empty := api.Msg{F: []api.Slot{{No: 1, K: []api.Val{}, V: []api.Val{}}, {No: 2, K: []api.Val{}, V: []api.Val{{M: []api.Msg{}}}}}}
	if !value.Same(none, empty) || !value.Same(empty, none) || !value.Same(api.Msg{}, api.Msg{F: []api.Slot{}}) {
		t.Errorf("nil and empty are not the same")
	}
}

// P9.1, R3: what Own gives stays when any part of what it was made of is changed, and the other way about.
func TestOwnStays(t *testing.T) {
	was := text(whole())
	for i := range changes(new(whole()), "") {
		in := whole()
		out := value.Own(in)
		c := changes(&in, "in")[i]
		c.do()
		if text(out) != was {
			t.Fatalf("%s: Own is changed to %s", c.what, text(out))
		}
		in = whole()
		out = value.Own(in)
		c = changes(&out, "out")[i]
		c.do()
		if text(in) != was {
			t.Fatalf("%s: what Own was made of is changed to %s", c.what, text(in))
		}
	}
}

// P9.1, R3: lists that are handed in several times, and lists with room behind them, are given as lists of their own.
func TestOwnShared(t *testing.T) {
	room := func() []api.Val { return append(make([]api.Val, 0, 9), num(1), num(2)) }
	one := []api.Msg{msg(slot(1, room()...))}
	both := room()
	l := vals(api.Val{M: one}, api.Val{N: 3, M: one})
	f := append(make([]api.Slot, 0, 7), pairs(1, l, l), pairs(2, l, both), pairs(3, both[:1], both[:2]), pairs(4, both[1:], both[:0]))
	in := api.Msg{F: f}
	holdTree(t, in)
	out := value.Own(in)
	was := text(in)
	for i := range changes(new(value.Own(in)), "") {
		changed := value.Own(in)
		changes(&changed, "")[i].do()
		if text(in) != was || text(out) != was {
			t.Fatalf("change %d is one of others, too", i)
		}
	}
	for i, v := range both[:cap(both)] {
		if want := []int64{1, 2, 0, 0, 0, 0, 0, 0, 0}[i]; v.N != want {
			t.Fatalf("place %d of what was handed in is %d, not %d", i, v.N, want)
		}
	}
}

// P9.1: Deep, Size, Own and Same of some trees, and of each with some change.
func TestTreesByChance(t *testing.T) {
	chance := rand.New(rand.NewPCG(9, 1))
	for range 3000 {
		m := tree(chance, 4)
		holdTree(t, m)
		holdSame(t, "two trees", m, tree(chance, 2))
		other := value.Own(m)
		l := changes(&other, "m")
		c := l[chance.IntN(len(l))]
		c.do()
		holdSame(t, c.what, m, other)
	}
}

// P1, R1: messages that are as deep as what is promised, in V, in K and behind another one in M.
func TestVeryDeep(t *testing.T) {
	for i, around := range []func(m api.Msg) api.Slot{
		func(m api.Msg) api.Slot { return slot(1, sub(m)) },
		func(m api.Msg) api.Slot { return pairs(1, vals(sub(m)), nil) },
		func(m api.Msg) api.Slot { return slot(1, sub(msg(), m)) },
	} {
		nest := func(last api.Msg) api.Msg {
			for range manyDeep - 1 {
				last = msg(around(last))
			}
			return last
		}
		m, other := nest(msg()), nest(msg(slot(1)))
		if value.Deep(m) != manyDeep || value.Size(m) != manyDeep-1 {
			t.Fatalf("%d: %d deep, of %d", i, value.Deep(m), value.Size(m))
		}
		if !value.Same(m, value.Own(m)) || value.Same(m, other) || value.Same(other, value.Own(m)) {
			t.Fatalf("%d: Same at the greatest depth", i)
		}
		got, ok := value.Get(value.Set(m, around(other)), 1)
		if want := around(other); len(want.V) > 0 && (!ok || !value.Same(msg(got), msg(want))) {
			t.Fatalf("%d: what is set is not got", i)
		}
	}
}

// P1, R1: messages that have very many slots, values and messages.
func TestVeryWide(t *testing.T) {
	const many = 100000
	m := api.Msg{F: make([]api.Slot, many)}
	m.F[many-1] = api.Slot{No: 7, K: make([]api.Val, many), V: make([]api.Val, many)}
	m.F[many-1].V[many-1].M = make([]api.Msg, many)
	m.F[many-1].V[many-1].M[many-1] = chain(3)
	if value.Deep(m) != 4 || value.Size(m) != 2*many+2 || !value.Same(m, value.Own(m)) {
		t.Fatalf("%d deep, of %d", value.Deep(m), value.Size(m))
	}
	if got, ok := value.Get(m, 7); !ok || len(got.K) != many || value.Size(msg(got)) != 2*many+2 {
		t.Fatalf("the last slot is not got")
	}
	if got := value.Set(m, slot(0, num(1))); len(got.F) != 2 || got.F[0].No != 0 || got.F[1].No != 7 {
		t.Fatalf("%d slots stay", len(got.F))
	}
}

// R5: what is told does not hang on what was asked before.
func TestAgain(t *testing.T) {
	first, firstText := value.Own(whole()), text(value.Set(whole(), slot(3, num(1))))
	value.Own(chain(9))
	value.Set(chain(3), slot(1))
	if !value.Same(first, value.Own(whole())) || text(value.Set(whole(), slot(3, num(1)))) != firstText || value.Deep(whole()) != 4 {
		t.Errorf("another answer")
	}
}
