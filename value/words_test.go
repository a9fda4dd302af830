package value_test

import (
	"fmt"
	"math/rand/v2"
	"slices"
	"strings"
	"testing"
	"unsafe"

	"truffle/api"
)

// text is all that is in a message: of two that differ in anything it is another one.
func text(m api.Msg) string {
	var b strings.Builder
	for _, s := range m.F {
		b.WriteString(slotText(s))
	}
	return "{" + b.String() + "}"
}

func slotText(s api.Slot) string {
	return fmt.Sprintf("<%d K%s V%s>", s.No, valsText(s.K), valsText(s.V))
}

func valsText(l []api.Val) string {
	var b strings.Builder
	for _, v := range l {
		fmt.Fprintf(&b, "(%d %q", v.N, v.S)
		for _, m := range v.M {
			b.WriteString(text(m))
		}
		b.WriteString(")")
	}
	return "[" + b.String() + "]"
}

// wantDeepSize is what P9.1 asks of Deep and Size, level by level: how many levels there are, and how many values on all of them.
func wantDeepSize(m api.Msg) (deep, size int) {
	for level := []api.Msg{m}; len(level) > 0; deep++ {
		var within []api.Msg
		for _, x := range level {
			for _, s := range x.F {
				size += len(s.K) + len(s.V)
				for _, v := range slices.Concat(s.K, s.V) {
					within = append(within, v.M...)
				}
			}
		}
		level = within
	}
	return deep, size
}

// num is a value that is a number, str one that is a text, sub one that has messages.
func num(n int64) api.Val      { return api.Val{N: n} }
func str(s string) api.Val     { return api.Val{S: s} }
func sub(l ...api.Msg) api.Val { return api.Val{M: l} }

// vals is a list of values.
func vals(l ...api.Val) []api.Val { return l }

// msg is a message of these slots, slot one of values in V, pairs one of values in K and V, one by one.
func msg(l ...api.Slot) api.Msg             { return api.Msg{F: l} }
func slot(no int, l ...api.Val) api.Slot    { return api.Slot{No: no, V: l} }
func pairs(no int, k, v []api.Val) api.Slot { return api.Slot{No: no, K: k, V: v} }

// chain is a message that is so deep, each in the only value of the one around it.
func chain(deep int) api.Msg {
	m := msg()
	for range deep - 1 {
		m = msg(slot(1, sub(m)))
	}
	return m
}

// whole is a message of everything, in memory of its own at each call: slots without values, with values in K alone, in V alone, and in both; none, one and more messages in M, also of values in K; numbers that are there twice.
func whole() api.Msg {
	in := func(n int64) api.Msg {
		return msg(slot(1, num(n), str("in")), pairs(2, vals(sub(msg(slot(3, num(4))))), vals(num(-1))))
	}
	return msg(
		slot(1, num(5), num(-6), str("\xff\x00")),
		slot(2),
		pairs(3, vals(num(1), str("k")), nil),
		pairs(3, vals(str("a"), str("b")), vals(num(7), sub(in(8)))),
		slot(9, sub(msg(), in(9), chain(3)), sub(), api.Val{N: 2, S: "both", M: []api.Msg{in(10)}}),
		pairs(-4, vals(sub(in(11), msg(slot(5)))), vals(sub(in(12)), num(0))),
	)
}

// change is one of a message, where it stands.
type change struct {
	what string
	do   func()
}

// listChanges are those of a list itself: it gets shorter, or longer, or another order.
func listChanges[T any](l *[]T, where string) []change {
	var none T
	out := []change{{where + " longer", func() { *l = append(*l, none) }}}
	if len(*l) > 0 {
		out = append(out,
			change{where + " without the first", func() { *l = (*l)[1:] }},
			change{where + " without the last", func() { *l = (*l)[:len(*l)-1] }})
	}
	for i := range len(*l) - 1 {
		out = append(out, change{fmt.Sprintf("%s %d and the next one", where, i), func() { (*l)[i], (*l)[i+1] = (*l)[i+1], (*l)[i] }})
	}
	return out
}

// changes are of each part of a message, on all levels.
func changes(m *api.Msg, where string) []change {
	out := listChanges(&m.F, where+".F")
	for i := range m.F {
		s, at := &m.F[i], fmt.Sprintf("%s.F[%d]", where, i)
		out = append(out, slotChanges(s, at)...)
	}
	return out
}

func slotChanges(s *api.Slot, where string) []change {
	out := []change{{where + ".No", func() { s.No += 100 }}}
	out = append(out, valsChanges(&s.K, where+".K")...)
	return append(out, valsChanges(&s.V, where+".V")...)
}

func valsChanges(l *[]api.Val, where string) []change {
	out := listChanges(l, where)
	for i := range *l {
		v, at := &(*l)[i], fmt.Sprintf("%s[%d]", where, i)
		out = append(out,
			change{at + ".N", func() { v.N += 1 << 40 }},
			change{at + ".N, below 0", func() { v.N -= 1000 }},
			change{at + ".S longer", func() { v.S += "\x00" }},
			change{at + ".S another one", func() { v.S = "other" + v.S }})
		out = append(out, listChanges(&v.M, at+".M")...)
		for k := range v.M {
			out = append(out, changes(&v.M[k], fmt.Sprintf("%s.M[%d]", at, k))...)
		}
	}
	return out
}

// memory is where a list lies, all its places counted.
type memory struct{ from, upto uintptr }

func memoryOf[T any](l []T) []memory {
	var one T
	if cap(l) == 0 {
		return nil
	}
	from := uintptr(unsafe.Pointer(unsafe.SliceData(l)))
	return []memory{{from, from + uintptr(cap(l))*unsafe.Sizeof(one)}}
}

// lists are where all lists of a message lie.
func lists(m api.Msg) []memory {
	out := memoryOf(m.F)
	for _, s := range m.F {
		out = append(out, slotLists(s)...)
	}
	return out
}

func slotLists(s api.Slot) []memory {
	out := append(memoryOf(s.K), memoryOf(s.V)...)
	for _, v := range slices.Concat(s.K, s.V) {
		out = append(out, memoryOf(v.M)...)
		for _, m := range v.M {
			out = append(out, lists(m)...)
		}
	}
	return out
}

// holdOwn holds that an answer's lists share nothing with one another, nor with what was handed in (R3).
func holdOwn(t *testing.T, answer []memory, in ...[]memory) {
	t.Helper()
	others := slices.Concat(in...)
	for i, a := range answer {
		for _, b := range slices.Concat(answer[:i], others) {
			if a.from < b.upto && b.from < a.upto {
				t.Fatalf("the answer's list %d shares memory", i)
			}
		}
	}
}

// small are values of each form, of at most so many levels.
func small(deep int) []api.Val {
	l := vals(num(0), num(1), num(-1), str("a"), api.Val{N: 1, S: "a"})
	if deep > 0 {
		l = append(l, sub(msg()), sub(msg(), msg()), api.Val{N: 1, M: []api.Msg{msg()}})
		for _, v := range small(deep - 1) {
			l = append(l, sub(msg(slot(1, v))), sub(msg(), msg(pairs(1, vals(v), nil))))
		}
	}
	return l
}

// smallMessages are messages that have little, each another one, but that lists without elements are nil and empty.
func smallMessages() []api.Msg {
	lists := [][]api.Val{nil, {}, vals(num(0), num(1)), vals(num(1), num(0)), vals(num(0), num(0))}
	for _, v := range small(2) {
		lists = append(lists, vals(v))
	}
	out := []api.Msg{{}, {F: []api.Slot{}}}
	var one []api.Slot
	for i, l := range lists {
		one = append(one, slot(1, l...), slot(2, l...), pairs(1, l, nil), pairs(1, l, lists[3]), pairs(1, lists[i/2], l))
	}
	for i, s := range one {
		out = append(out, msg(s), msg(s, one[i/3]), msg(one[i/3], s))
	}
	return out
}

// tree is some message, of at most so many levels.
func tree(chance *rand.Rand, deep int) api.Msg {
	var m api.Msg
	for range chance.IntN(4) {
		s := api.Slot{No: chance.IntN(6) - 1}
		for range chance.IntN(3) {
			s.V = append(s.V, someVal(chance, deep))
		}
		for range max(0, chance.IntN(4)-1) {
			s.K = append(s.K, someVal(chance, deep))
		}
		m.F = append(m.F, s)
	}
	return m
}

func someVal(chance *rand.Rand, deep int) api.Val {
	v := api.Val{N: chance.Int64N(5) - 2, S: []string{"", "a", "b\x00", "\xff"}[chance.IntN(4)]}
	if deep > 1 {
		for range max(0, chance.IntN(5)-2) {
			v.M = append(v.M, tree(chance, deep-1))
		}
	}
	return v
}
