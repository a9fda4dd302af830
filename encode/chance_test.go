package encode_test

import (
	"bytes"
	"fmt"
	"math"
	"math/rand/v2"
	"slices"
	"testing"

	"truffle/api"
	"truffle/decode"
	"truffle/encode"
	"truffle/table"
	"truffle/typed"
)

// someOf is some value of a kind that is of it.
func someOf(chance *rand.Rand, s api.Schema, kind, ref, deep int) api.Val {
	switch kind {
	case api.Text:
		return txt([]string{"", "a", "b", "é"}[chance.IntN(4)])
	case api.Raw:
		return txt([]string{"", "a", "\xff", "\x00"}[chance.IntN(4)])
	case api.Sub:
		return sub(someMsg(chance, s, ref, deep-1))
	}
	least, greatest := limits(kind)
	for {
		n := []int64{0, 0, 0, 1, 1, -1, 2, 127, 128, 1<<31 - 1, -1 << 31, 1<<32 - 1, math.MinInt64, math.MaxInt64}[chance.IntN(14)]
		if least <= n && n <= greatest {
			return num(n)
		}
	}
}

// someMsg is some message of message m, seldom normal, of at most so many levels.
func someMsg(chance *rand.Rand, s api.Schema, m, deep int) api.Msg {
	var x api.Msg
	ones := map[int]bool{}
	for _, i := range chance.Perm(len(s.M[m].F)) {
		f := s.M[m].F[i]
		if chance.IntN(4) > 0 || f.Kind == api.Sub && deep == 1 || f.One > 0 && ones[f.One] {
			continue
		}
		ones[f.One] = true
		many := 1
		if f.Rep || f.Key != api.NoKey {
			many = chance.IntN(4)
		}
		slot := api.Slot{No: f.No}
		for range many {
			slot.V = append(slot.V, someOf(chance, s, f.Kind, f.Ref, deep))
			if f.Key != api.NoKey {
				slot.K = append(slot.K, someOf(chance, s, f.Key, 0, deep))
			}
		}
		x.F = append(x.F, slot)
	}
	return x
}

// someSchema is some schema that may be.
func someSchema(chance *rand.Rand) api.Schema {
	s := api.Schema{M: make([]api.MsgDef, 1+chance.IntN(3)), E: []api.EnumDef{{Name: "E", V: []string{"Z"}, N: []int64{0}}}}
	for m := range s.M {
		s.M[m].Name = fmt.Sprint("M", m)
		no := 0
		for i := range 1 + chance.IntN(8) {
			no += 1 + chance.IntN(9)
			f := api.FieldDef{No: no, Name: fmt.Sprint("f", i), Kind: chance.IntN(api.Kinds), Key: api.NoKey}
			if f.Kind == api.Sub {
				f.Ref = chance.IntN(len(s.M))
			}
			switch chance.IntN(5) {
			case 0:
				f.Rep = true
			case 1:
				f.Key = keyKinds[chance.IntN(len(keyKinds))]
			case 2, 3:
				f.One = chance.IntN(3)
			}
			s.M[m].F = append(s.M[m].F, f)
		}
	}
	return s
}

// P12.1 to P12.3: messages made by chance, of many schemas.
func TestEncodeByChance(t *testing.T) {
	chance := rand.New(rand.NewPCG(12, 1))
	fixed := []api.Schema{whole(), read(t, small)}
	for i := range 3000 {
		s := fixed[i%2]
		if i%4 > 1 {
			s = someSchema(chance)
		}
		if !table.May(s) {
			t.Fatalf("%+v may not be", s)
		}
		m := chance.IntN(len(s.M))
		x := someMsg(chance, s, m, 4)
		if !typed.May(s, m, x) {
			t.Fatalf("%s may not be", text(x))
		}
		hold(t, s, m, x)
		hold(t, s, chance.IntN(len(s.M)), x)
		holdValue(t, s, api.Sub, m, 1+chance.IntN(api.MaxNo), sub(x))
	}
}

// change changes something of a message, so that it may be wrong.
func change(chance *rand.Rand, x *api.Msg) {
	if len(x.F) == 0 || chance.IntN(6) == 0 {
		x.F = append(x.F, slot(chance.IntN(40), someOf(chance, api.Schema{}, chance.IntN(api.Sub), 0, 1)))
		return
	}
	at := &x.F[chance.IntN(len(x.F))]
	switch l := at.V; chance.IntN(8) {
	case 0:
		at.No += chance.IntN(3) - 1
	case 1:
		at.K, at.V = at.V, at.K
	case 2:
		at.K = append(at.K, api.Val{})
	case 3:
		at.V = append(at.V, someOf(chance, api.Schema{}, chance.IntN(api.Sub), 0, 1))
	default:
		if len(l) == 0 {
			return
		}
		v := &l[chance.IntN(len(l))]
		if len(v.M) > 0 && chance.IntN(4) > 0 {
			change(chance, &v.M[0])
			return
		}
		[]func(){func() { v.N ^= 1 << chance.IntN(64) }, func() { v.S += "\xff" }, func() { v.M = append(slices.Clone(v.M), msg()) }, func() { *v = api.Val{} }}[chance.IntN(4)]()
	}
}

// P12.1 to P12.3: messages made by chance, with a change, so that many may not be.
func TestEncodeChanged(t *testing.T) {
	chance := rand.New(rand.NewPCG(12, 2))
	fixed := []api.Schema{whole(), read(t, small)}
	fine, wrong := 0, 0
	for i := range 6000 {
		s := fixed[i%2]
		m := chance.IntN(2)
		x := someMsg(chance, s, m, 3)
		for range 1 + chance.IntN(2) {
			change(chance, &x)
		}
		hold(t, s, m, x)
		holdValue(t, s, api.Sub, m, chance.IntN(4), sub(x))
		if typed.May(s, m, x) {
			fine++
			continue
		}
		wrong++
	}
	if fine < 500 || wrong < 500 {
		t.Errorf("too few of a sort: %d, %d", fine, wrong)
	}
}

// shuffled is a message that is normal as another one: its slots and entries in another order, with entries ahead that do not count, and with what goes without saying.
func shuffled(chance *rand.Rand, s api.Schema, m int, x api.Msg) api.Msg {
	var out api.Msg
	for _, f := range s.M[m].F {
		at := slices.IndexFunc(x.F, func(slot api.Slot) bool { return slot.No == f.No })
		if at < 0 {
			if may := f.Rep || f.Key != api.NoKey; may || f.One == 0 && f.Kind != api.Sub {
				extra := slot(f.No)
				if !may {
					extra.V = vals(api.Val{})
				}
				out.F = append(out.F, extra)
			}
			continue
		}
		other := slot(f.No)
		order := make([]int, len(x.F[at].V))
		for i := range order {
			order[i] = i
		}
		if f.Key != api.NoKey {
			chance.Shuffle(len(order), func(i, j int) { order[i], order[j] = order[j], order[i] })
			order = slices.Concat(order, order[:chance.IntN(len(order)+1)])
		}
		for i, from := range order {
			v := x.F[at].V[from]
			if v.M != nil {
				v.M = []api.Msg{shuffled(chance, s, f.Ref, v.M[0])}
			}
			if f.Key != api.NoKey {
				other.K = append(other.K, x.F[at].K[from])
				if slices.Contains(order[i+1:], from) {
					v = someOf(chance, s, f.Kind, f.Ref, 2)
				}
			}
			other.V = append(other.V, v)
		}
		out.F = append(out.F, other)
	}
	chance.Shuffle(len(out.F), func(i, j int) { out.F[i], out.F[j] = out.F[j], out.F[i] })
	return out
}

// P12.3: the bytes of messages that are normal as the same are the same; of others they are other ones.
func TestSameBytes(t *testing.T) {
	chance := rand.New(rand.NewPCG(12, 3))
	s := whole()
	told := map[string]string{}
	for range 1500 {
		x, _ := typed.Normal(s, forms, someMsg(chance, s, forms, 3))
		want, err := encode.Encode(s, forms, x)
		if was, ok := told[string(want)]; ok && was != text(x) {
			t.Fatalf("%x are the bytes of %s, and of %s", want, was, text(x))
		}
		told[string(want)] = text(x)
		for range 3 {
			y := shuffled(chance, s, forms, x)
			b, other := encode.Encode(s, forms, y)
			if err != api.OK || other != api.OK || !bytes.Equal(b, want) {
				t.Fatalf("%s is %x, %d, and %s %x, %d", text(x), want, err, text(y), b, other)
			}
		}
	}
}

// P12.3, T3: bytes that decode tell what the bytes tell that their message is encoded as.
func TestDecodedAndEncoded(t *testing.T) {
	s := read(t, small)
	parts := [][]byte{
		nil, vr(1, 5), vr(1, 0), join(head(1, api.Var), long(5, 10)), vr(99, 7), str(98, "none"), vr(2, 3), run(2, uv(3), long(4, 3)), run(2),
		run(4, vr(1, 1)), run(4), run(4, vr(2, 2), run(4, vr(1, 0))), entry(5), entry(5, str(1, "k")), entry(5, run(2, vr(1, 1)), run(2, vr(2, 4))),
		vr(6, 0), vr(6, 77), run(7), run(7, vr(1, 1)), str(8, ""), str(9, ""), entry(10, vr(2, 1<<40+3), vr(1, 7)), entry(10), run(11), four(12, 0),
		eight(13, 1<<63), four(14, 5), run(14, []byte{1, 0, 0, 0, 2, 0, 0, 0}), str(15, "\xff"), vr(16, 1<<32+1), entry(17, vr(1, 9), str(2, "é")), vr(18, 0), vr(19, 1<<35+1), run(20, run(2, vr(3<<10, 1))),
	}
	chance := rand.New(rand.NewPCG(12, 4))
	for range 10000 {
		var b []byte
		for range chance.IntN(8) {
			part := parts[chance.IntN(len(parts))]
			for chance.IntN(3) == 0 {
				part = run([]int{4, 7, 11}[chance.IntN(3)], part)
			}
			b = join(b, part)
		}
		x, err := decode.Decode(s, 0, b)
		if err != api.OK {
			t.Fatalf("%x: %d", b, err)
		}
		told, err := encode.Encode(s, 0, x)
		back, wrong := decode.Decode(s, 0, told)
		if err != api.OK || wrong != api.OK || text(back) != text(x) {
			t.Fatalf("%x is %s, that is %x, %d, that is %s, %d", b, text(x), told, err, text(back), wrong)
		}
		again, err := encode.Encode(s, 0, back)
		if err != api.OK || !bytes.Equal(again, told) {
			t.Fatalf("%x is encoded as %x, and then as %x", b, told, again)
		}
	}
}

// scramble changes all that can be reached from a message.
func scramble(m api.Msg) {
	for i := range m.F {
		for _, l := range [][]api.Val{m.F[i].K, m.F[i].V} {
			for k := range l {
				for _, x := range l[k].M {
					scramble(x)
				}
				clear(l[k].M)
				l[k] = api.Val{N: -77, S: "changed"}
			}
		}
		m.F[i] = api.Slot{No: -77}
	}
}

// P12.2, R3, R5: later changes to the message, or to what is told, change nothing of the other, nor of what is told again; the schema stays.
func TestStays(t *testing.T) {
	s := whole()
	chance := rand.New(rand.NewPCG(12, 5))
	for range 1000 {
		x := someMsg(chance, s, forms, 4)
		was := text(x)
		b, err := encode.Encode(s, forms, x)
		told := slices.Clone(b)
		if err != api.OK {
			t.Fatalf("%s: %d", was, err)
		}
		for i := range b[:cap(b)] {
			b[:cap(b)][i] ^= 255
		}
		if text(x) != was {
			t.Fatalf("%s is changed to %s", was, text(x))
		}
		b, _ = encode.Encode(s, forms, x)
		scramble(x)
		if !bytes.Equal(b, told) {
			t.Fatalf("%s is %x, and then %x", was, told, b)
		}
	}
	if !table.Same(s, whole()) {
		t.Errorf("the schema is changed to %+v", s)
	}
}

// P12.2, R3: lists and messages that stand several times in what is handed in, and lists with room behind them, stay as they are.
func TestShared(t *testing.T) {
	s := read(t, small)
	one := []api.Msg{msg(slot(3, txt("t")), slot(1, num(1)))}
	l := vals(api.Val{M: one}, api.Val{M: one})
	keys := append(make([]api.Val, 0, 9), txts("b", "a")...)
	x := api.Msg{F: append(make([]api.Slot, 0, 9), slot(11, l...), pairs(5, keys, l), slot(7, l[0]), slot(2, append(make([]api.Val, 0, 5), nums(1, 0)...)...))}
	hold(t, s, 0, x)
	hold(t, s, 0, msg(slot(4, sub(x)), slot(11, sub(x), sub(x))))
	for i, k := range keys[:cap(keys)] {
		if want := []string{"b", "a", "", "", "", "", "", "", ""}[i]; k.S != want {
			t.Errorf("key %d is changed to %q", i, k.S)
		}
	}
	for i, slot := range x.F[:cap(x.F)] {
		if i >= 4 && (slot.No != 0 || slot.V != nil) {
			t.Errorf("slot %d is changed", i)
		}
	}
}

// P1, R1: messages that are very deep, and very wide.
func TestVeryDeepAndWide(t *testing.T) {
	s := read(t, small)
	for i, around := range arounds() {
		x := nest(1<<16-1, msg(), around)
		if b, err := encode.Encode(s, 0, x); err != api.ErrArg || len(b) > 0 {
			t.Errorf("%d: %d bytes, %d", i, len(b), err)
		}
		if b, err := encode.Value(s, api.Sub, 0, 1, sub(x)); err != api.ErrArg || len(b) > 0 {
			t.Errorf("%d: %d bytes, %d", i, len(b), err)
		}
	}
	const many = 100000
	keys, flags, texts := make([]api.Val, many), make([]api.Val, many), make([]api.Val, many)
	var want []byte
	for i := range many {
		keys[i].N = int64(many - i)
		want = append(want, entry(10, vr(1, uint64(i+1)), vr(2, 0))...)
	}
	for _, c := range []struct {
		x    api.Msg
		want []byte
	}{
		{msg(pairs(10, keys, flags)), want},
		{msg(slot(2, flags...)), run(2, make([]byte, many))},
		{msg(slot(9, texts...)), bytes.Repeat(str(9, ""), many)},
		{msg(slot(11, slices.Repeat(vals(in(slot(1, num(1)))), many)...)), bytes.Repeat(run(11, vr(1, 1)), many)},
	} {
		if b, err := encode.Encode(s, 0, c.x); err != api.OK || !bytes.Equal(b, c.want) {
			t.Errorf("field %d: %d bytes, %d", c.x.F[0].No, len(b), err)
		}
	}
	if b, err := encode.Encode(s, 0, api.Msg{F: make([]api.Slot, many)}); err != api.ErrArg || len(b) > 0 {
		t.Errorf("very many zero slots: %d bytes, %d", len(b), err)
	}
	wide := nest(64, msg(slot(3, txt(string(bytes.Repeat([]byte("é"), many))))), arounds()[0])
	if b, err := encode.Encode(s, 0, wide); err != api.OK || len(b) < 2*many {
		t.Errorf("a long text, very deep: %d bytes, %d", len(b), err)
	}
}

// P1, R1, R4: zero values, and nil ones.
func TestZeroValues(t *testing.T) {
	if b, err := encode.Encode(api.Schema{}, 0, api.Msg{}); err != api.ErrArg || len(b) > 0 {
		t.Errorf("of no schema: %x, %d", b, err)
	}
	if b, err := encode.Value(api.Schema{}, 0, 0, 0, api.Val{}); err != api.ErrArg || len(b) > 0 {
		t.Errorf("a value of no schema: %x, %d", b, err)
	}
	// A field whose Key is 0 is a map, by numbers.
	s := api.Schema{M: []api.MsgDef{{F: []api.FieldDef{{No: 1}}}}}
	for _, x := range []api.Msg{{}, {F: make([]api.Slot, 1)}, {F: make([]api.Slot, 2)}, msg(slot(1)), msg(slot(1, api.Val{})), msg(pairs(1, make([]api.Val, 2), make([]api.Val, 2)))} {
		for m := -1; m < 2; m++ {
			hold(t, s, m, x)
		}
	}
	for kind := range api.Kinds {
		holdValue(t, s, kind, 0, 0, api.Val{})
		holdValue(t, s, kind, 0, 1, api.Val{})
	}
}
