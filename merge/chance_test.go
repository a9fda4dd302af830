package merge_test

import (
	"encoding/binary"
	"fmt"
	"math"
	"math/rand/v2"
	"slices"
	"testing"

	"truffle/api"
	"truffle/decode"
	"truffle/encode"
	"truffle/merge"
	"truffle/table"
)

// someOf is some value of a kind that is of it.
func someOf(chance *rand.Rand, s api.Schema, kind, ref, deep int) api.Val {
	switch kind {
	case api.Text:
		return txt([]string{"", "a", "b", "é"}[chance.IntN(4)])
	case api.Raw:
		return txt([]string{"", "a", "\xff", "\x00"}[chance.IntN(4)])
	case api.Sub:
		return sub(someMsg(chance, s, ref, deep-1))
	}
	least, greatest := limits(kind)
	for {
		n := []int64{0, 0, 0, 1, 1, -1, 2, 127, 128, 1<<31 - 1, -1 << 31, 1<<32 - 1, math.MinInt64, math.MaxInt64}[chance.IntN(14)]
		if least <= n && n <= greatest {
			return num(n)
		}
	}
}

// someMsg is some message of message m, seldom normal, of at most so many levels.
func someMsg(chance *rand.Rand, s api.Schema, m, deep int) api.Msg {
	var x api.Msg
	ones := map[int]bool{}
	for _, i := range chance.Perm(len(s.M[m].F)) {
		f := s.M[m].F[i]
		if chance.IntN(3) > 0 || f.Kind == api.Sub && deep == 1 || f.One > 0 && ones[f.One] {
			continue
		}
		ones[f.One] = true
		many := 1
		if f.Rep || f.Key != api.NoKey {
			many = chance.IntN(4)
		}
		slot := api.Slot{No: f.No}
		for range many {
			slot.V = append(slot.V, someOf(chance, s, f.Kind, f.Ref, deep))
			if f.Key != api.NoKey {
				slot.K = append(slot.K, someOf(chance, s, f.Key, 0, deep))
			}
		}
		x.F = append(x.F, slot)
	}
	return x
}

// someSchema is some schema that may be, with a message in a oneof only if that is asked for.
func someSchema(chance *rand.Rand, subInOne bool) api.Schema {
	s := api.Schema{M: make([]api.MsgDef, 1+chance.IntN(3)), E: []api.EnumDef{{Name: "E", V: []string{"Z"}, N: []int64{0}}}}
	for m := range s.M {
		s.M[m].Name = fmt.Sprint("M", m)
		no := 0
		for i := range 1 + chance.IntN(8) {
			no += 1 + chance.IntN(9)
			f := api.FieldDef{No: no, Name: fmt.Sprint("f", i), Kind: chance.IntN(api.Kinds), Key: api.NoKey}
			if chance.IntN(3) == 0 {
				f.Kind = api.Sub
			}
			if f.Kind == api.Sub {
				f.Ref = chance.IntN(len(s.M))
			}
			switch chance.IntN(5) {
			case 0:
				f.Rep = true
			case 1:
				f.Key = keyKinds[chance.IntN(len(keyKinds))]
			case 2, 3:
				if f.Kind != api.Sub || subInOne {
					f.One = chance.IntN(3)
				}
			}
			s.M[m].F = append(s.M[m].F, f)
		}
	}
	return s
}

// P13.1, P13.2: messages made by chance, of many schemas.
func TestMergeByChance(t *testing.T) {
	chance := rand.New(rand.NewPCG(13, 1))
	fixed := []api.Schema{whole(), read(t, small)}
	for i := range 1200 {
		s := fixed[i%2]
		if i%4 > 1 {
			s = someSchema(chance, true)
		}
		if !table.May(s) {
			t.Fatalf("%+v may not be", s)
		}
		m := chance.IntN(len(s.M))
		a, b := someMsg(chance, s, m, 3), someMsg(chance, s, m, 3)
		hold(t, s, m, a, b)
		hold(t, s, m, a, a)
		hold(t, s, chance.IntN(len(s.M)), a, b)
		l := []api.Msg{a, b}
		for range chance.IntN(4) {
			l = append(l, someMsg(chance, s, m, 2))
		}
		holdAll(t, s, m, l...)
	}
}

// change changes something of a message, so that it may be wrong.
func change(chance *rand.Rand, x *api.Msg) {
	if len(x.F) == 0 || chance.IntN(6) == 0 {
		x.F = append(x.F, slot(chance.IntN(40), someOf(chance, api.Schema{}, chance.IntN(api.Sub), 0, 1)))
		return
	}
	at := &x.F[chance.IntN(len(x.F))]
	switch l := at.V; chance.IntN(8) {
	case 0:
		at.No += chance.IntN(3) - 1
	case 1:
		at.K, at.V = at.V, at.K
	case 2:
		at.K = append(at.K, api.Val{})
	case 3:
		at.V = append(at.V, someOf(chance, api.Schema{}, chance.IntN(api.Sub), 0, 1))
	default:
		if len(l) == 0 {
			return
		}
		v := &l[chance.IntN(len(l))]
		if len(v.M) > 0 && chance.IntN(4) > 0 {
			change(chance, &v.M[0])
			return
		}
		[]func(){func() { v.N ^= 1 << chance.IntN(64) }, func() { v.S += "\xff" }, func() { v.M = append(slices.Clone(v.M), msg()) }, func() { *v = api.Val{} }}[chance.IntN(4)]()
	}
}

// P13.1: messages made by chance, with a change, on either side, so that many may not be.
func TestMergeChanged(t *testing.T) {
	chance := rand.New(rand.NewPCG(13, 2))
	fixed := []api.Schema{whole(), read(t, small)}
	fine, wrong := 0, 0
	for i := range 2000 {
		s := fixed[i%2]
		m := chance.IntN(2)
		a, b := someMsg(chance, s, m, 2), someMsg(chance, s, m, 2)
		for range chance.IntN(3) {
			change(chance, []*api.Msg{&a, &b}[chance.IntN(2)])
		}
		hold(t, s, m, a, b)
		holdAll(t, s, m, b, a, b)
		if wantMay(s, m, a) && wantMay(s, m, b) {
			fine++
			continue
		}
		wrong++
	}
	if fine < 500 || wrong < 500 {
		t.Errorf("too few of a sort: %d, %d", fine, wrong)
	}
}

// P13.2: if no message is in a oneof it does not matter in which two parts several are merged: messages made by chance, of many schemas.
func TestPartsByChance(t *testing.T) {
	chance := rand.New(rand.NewPCG(13, 3))
	for i := range 450 {
		s := someSchema(chance, false)
		if i%3 == 0 {
			s = read(t, plain)
		}
		m := chance.IntN(len(s.M))
		l := make([]api.Msg, 3+chance.IntN(3))
		for i := range l {
			l[i] = someMsg(chance, s, m, 3)
		}
		holdParts(t, s, m, l...)
	}
}

// Records, as bytes: vr is one that is a number, run one that is these bytes, four and eight are those of a fixed size.
func head(no, wire int) []byte   { return binary.AppendUvarint(nil, uint64(no)<<3|uint64(wire)) }
func vr(no int, n uint64) []byte { return binary.AppendUvarint(head(no, api.Var), n) }
func run(no int, l ...[]byte) []byte {
	body := slices.Concat(l...)
	return slices.Concat(binary.AppendUvarint(head(no, api.Run), uint64(len(body))), body)
}
func str(no int, s string) []byte   { return run(no, []byte(s)) }
func four(no int, n uint32) []byte  { return binary.LittleEndian.AppendUint32(head(no, api.Four), n) }
func eight(no int, n uint64) []byte { return binary.LittleEndian.AppendUint64(head(no, api.Eight), n) }

// someBytes are some that decode, of message A of schema small, seldom such as a message is encoded as.
func someBytes(chance *rand.Rand) []byte {
	parts := [][]byte{
		nil, vr(1, 5), vr(1, 0), vr(99, 7), str(98, "none"), vr(2, 3), run(2, []byte{3, 172, 2, 0}), run(2),
		run(4, vr(1, 1)), run(4), run(4, vr(2, 2), run(4, vr(1, 0))), run(5), run(5, str(1, "a")), run(5, run(2, vr(1, 1)), run(2, vr(2, 4))),
		vr(6, 0), vr(6, 77), run(7), run(7, vr(1, 1)), str(8, ""), str(9, ""), run(10, vr(2, 1<<40+3), vr(1, 1)), run(10), run(11), four(12, 0),
		eight(13, 1<<63), four(14, 5), run(14, []byte{1, 0, 0, 0, 2, 0, 0, 0}), str(15, "\xff"), vr(16, 1<<32+1), run(17, vr(1, 9), str(2, "é")), vr(18, 0), vr(19, 1<<35+1), run(20, run(2, vr(3<<10, 1))),
		run(21), run(21, run(2, vr(6, 1))), run(21, str(1, "x")),
	}
	var b []byte
	for range chance.IntN(8) {
		part := parts[chance.IntN(len(parts))]
		for chance.IntN(3) == 0 {
			part = run([]int{4, 7, 11}[chance.IntN(3)], part)
		}
		b = append(b, part...)
	}
	return b
}

// P13.2: what bytes, and a message's bytes behind them, decode to is the one, with the other one merged into it.
func TestBytesAndMessage(t *testing.T) {
	s := read(t, small)
	chance := rand.New(rand.NewPCG(13, 4))
	for range 4000 {
		b, y := someBytes(chance), someMsg(chance, s, 0, 3)
		x, err := decode.Decode(s, 0, b)
		if err != api.OK {
			t.Fatalf("%x: %d", b, err)
		}
		behind, err := encode.Encode(s, 0, y)
		if err != api.OK {
			t.Fatalf("%s: %d", text(y), err)
		}
		want, err := decode.Decode(s, 0, slices.Concat(b, behind))
		if err != api.OK {
			t.Fatalf("%x%x: %d", b, behind, err)
		}
		if got, err := merge.Merge(s, 0, x, y); err != api.OK || text(got) != text(want) {
			t.Fatalf("%x with %s: %s, %d, not %s", b, text(y), text(got), err, text(want))
		}
	}
}

// P13.2: examples of bytes, and a message's bytes behind them.
func TestBytesExamples(t *testing.T) {
	s := read(t, small)
	for _, c := range []struct {
		b    []byte
		y    api.Msg
		want api.Msg
	}{
		{nil, msg(), msg()},
		{[]byte{8, 5, 8, 7}, msg(slot(2, num(1))), msg(slot(1, num(7)), slot(2, num(1)))},
		{[]byte{8, 5}, msg(slot(1, num(0))), msg(slot(1, num(5)))},
		{[]byte{16, 3, 18, 2, 1, 2}, msg(slot(2, nums(-1, 0)...)), msg(slot(2, nums(-2, -1, 1, -1, 0)...))},
		{[]byte{48, 1}, msg(slot(8, txt(""))), msg(slot(8, txt("")))},
		{[]byte{58, 2, 8, 1, 48, 0, 58, 2, 16, 2}, msg(slot(7, in(slot(3, txt("t"))))), msg(slot(7, in(slot(2, num(1)), slot(3, txt("t")))))},
		{[]byte{34, 2, 8, 5, 34, 2, 16, 2}, msg(slot(4, in(slot(1, num(6))))), msg(slot(4, in(slot(1, num(6)), slot(2, num(1)))))},
		{[]byte{82, 2, 8, 1, 82, 4, 16, 5, 8, 2}, msg(pairs(10, nums(2, 0), nums(0, 7))), msg(pairs(10, nums(0, 1, 2), nums(7, 0, 0)))},
	} {
		x, err := decode.Decode(s, 0, c.b)
		got, wrong := merge.Merge(s, 0, x, c.y)
		if err != api.OK || wrong != api.OK || text(got) != text(c.want) {
			t.Errorf("%v with %s: %d, %s, %d", c.b, text(c.y), err, text(got), wrong)
		}
		behind, _ := encode.Encode(s, 0, c.y)
		if all, err := decode.Decode(s, 0, slices.Concat(c.b, behind)); err != api.OK || text(all) != text(c.want) {
			t.Errorf("%v, and %v behind: %s, %d", c.b, behind, text(all), err)
		}
	}
}

// scramble changes all that can be reached from a message.
func scramble(m api.Msg) {
	for i := range m.F {
		for _, l := range [][]api.Val{m.F[i].K, m.F[i].V} {
			for k := range l {
				for _, x := range l[k].M {
					scramble(x)
				}
				clear(l[k].M)
				l[k] = api.Val{N: -77, S: "changed"}
			}
		}
		m.F[i] = api.Slot{No: -77}
	}
}

// P13.1, R3, R5: later changes to the messages, or to what is told, change nothing of the other, nor of what is told again; the schema stays.
func TestStays(t *testing.T) {
	s := whole()
	chance := rand.New(rand.NewPCG(13, 5))
	for range 500 {
		l := []api.Msg{someMsg(chance, s, forms, 3), someMsg(chance, s, forms, 3), someMsg(chance, s, forms, 2)}
		was := textOf(l...)
		both, err := merge.Merge(s, forms, l[0], l[1])
		all, other := merge.All(s, forms, l...)
		if err != api.OK || other != api.OK {
			t.Fatalf("%s: %d, %d", was, err, other)
		}
		told := textOf(both, all)
		scramble(both)
		if textOf(l...) != was {
			t.Fatalf("%s is changed to %s", was, textOf(l...))
		}
		scramble(all)
		if textOf(l...) != was {
			t.Fatalf("%s is changed to %s", was, textOf(l...))
		}
		both, _ = merge.Merge(s, forms, l[0], l[1])
		all, _ = merge.All(s, forms, l...)
		for i := range l {
			scramble(l[i])
		}
		clear(l)
		if again := textOf(both, all); again != told {
			t.Fatalf("%s is %s, and then %s", was, told, again)
		}
	}
	if !table.Same(s, whole()) {
		t.Errorf("the schema is changed to %+v", s)
	}
}

// P13.1, R3: lists and messages that stand several times in what is handed in, and lists with room behind them, stay as they are.
func TestShared(t *testing.T) {
	s := read(t, small)
	one := []api.Msg{msg(slot(3, txt("t")), slot(1, num(1)))}
	l := vals(api.Val{M: one}, api.Val{M: one})
	keys := append(make([]api.Val, 0, 9), txts("b", "a")...)
	numbers := append(make([]api.Val, 0, 9), nums(1, 0)...)
	x := api.Msg{F: append(make([]api.Slot, 0, 9), slot(11, l...), pairs(5, keys, l), slot(7, l[0]), slot(2, numbers...), slot(4, l[1]))}
	hold(t, s, 0, x, x)
	hold(t, s, 0, x, msg(slot(4, l[0]), slot(2, numbers[:1]...), slot(6, num(1))))
	hold(t, s, 0, msg(slot(4, sub(x)), slot(11, sub(x), sub(x))), x)
	all := append(make([]api.Msg, 0, 9), x, x, msg(slot(4, sub(x))))
	holdAll(t, s, 0, all...)
	for i := range 9 {
		if want := []string{"b", "a", "", "", "", "", "", "", ""}[i]; keys[:9][i].S != want {
			t.Errorf("key %d is changed to %q", i, keys[:9][i].S)
		}
		if want := []int64{1, 0, 0, 0, 0, 0, 0, 0, 0}[i]; numbers[:9][i].N != want || numbers[:9][i].S != "" {
			t.Errorf("number %d is changed to %v", i, numbers[:9][i])
		}
		if slot := x.F[:9][i]; i >= 5 && (slot.No != 0 || slot.V != nil) {
			t.Errorf("slot %d is changed", i)
		}
		if i >= 3 && all[:9][i].F != nil {
			t.Errorf("message %d is changed", i)
		}
	}
}

// P1, R1: messages that are very deep, and very wide.
func TestVeryDeepAndWide(t *testing.T) {
	s := read(t, small)
	for i, around := range arounds() {
		x := nest(1<<16-1, msg(), around)
		for _, l := range [][]api.Msg{{x, x}, {x, msg()}, {msg(), x}} {
			if got, err := merge.Merge(s, 0, l[0], l[1]); err != api.ErrArg || len(got.F) > 0 {
				t.Errorf("%d: %d", i, err)
			}
			if got, err := merge.All(s, 0, l...); err != api.ErrArg || len(got.F) > 0 {
				t.Errorf("%d: %d", i, err)
			}
		}
	}
	const many = 100000
	keys, other, flags := make([]api.Val, many), make([]api.Val, many), make([]api.Val, many)
	for i := range many {
		keys[i].N, other[i].N = int64(many-i), int64(many/2+i)
	}
	hold(t, s, 0, msg(slot(2, flags...), slot(11, slices.Repeat(vals(in()), many)...)), msg(slot(11, in()), slot(2, flags...)))
	x, err := merge.Merge(s, 0, msg(pairs(10, keys, keys)), msg(pairs(10, other, flags)))
	if err != api.OK || len(x.F) != 1 || len(x.F[0].K) != many/2*3-1 {
		t.Fatalf("a wide map: %d", err)
	}
	for i, k := range x.F[0].K {
		n := int64(i + 1)
		want := n
		if n >= many/2 {
			want = 0
		}
		if k.N != n || x.F[0].V[i].N != want {
			t.Fatalf("key %d is %d, with %d", i, k.N, x.F[0].V[i].N)
		}
	}
	if x, err := merge.Merge(s, 0, msg(), api.Msg{F: make([]api.Slot, many)}); err != api.ErrArg || len(x.F) > 0 {
		t.Errorf("very many zero slots: %d", err)
	}
}

// P1, R1, R4: zero values, and nil ones.
func TestZeroValues(t *testing.T) {
	if x, err := merge.Merge(api.Schema{}, 0, api.Msg{}, api.Msg{}); err != api.ErrArg || len(x.F) > 0 {
		t.Errorf("of no schema: %s, %d", text(x), err)
	}
	if x, err := merge.All(api.Schema{}, 0); err != api.ErrArg || len(x.F) > 0 {
		t.Errorf("all of no schema: %s, %d", text(x), err)
	}
	// A field whose Key is 0 is a map, by numbers.
	s := api.Schema{M: []api.MsgDef{{F: []api.FieldDef{{No: 1}}}}}
	some := []api.Msg{{}, {F: make([]api.Slot, 1)}, {F: make([]api.Slot, 2)}, msg(slot(1)), msg(slot(1, api.Val{})), msg(pairs(1, make([]api.Val, 2), make([]api.Val, 2)))}
	for _, a := range some {
		for _, b := range some {
			for m := -1; m < 2; m++ {
				hold(t, s, m, a, b)
			}
		}
	}
}
