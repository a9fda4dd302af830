package decode_test

import (
	"bytes"
	"fmt"
	"math/rand/v2"
	"slices"
	"testing"

	"truffle/api"
	"truffle/decode"
	"truffle/table"
)

// unknown is a number from which on no field that is made by chance is.
const unknown = 200

// maker makes bytes by chance; some of what it makes is wrong, so often.
type maker struct {
	chance *rand.Rand
	s      api.Schema
	wrong  float64
}

func (k maker) isWrong() bool { return k.chance.Float64() < k.wrong }

func (k maker) raw() uint64 {
	if k.chance.IntN(3) > 0 {
		return uint64(k.chance.IntN(4))
	}
	return rawEdges[k.chance.IntN(len(rawEdges))]
}

// record is a record of a number, of a kind.
func (k maker) record(no, kind, ref, deep int) []byte {
	wire := wireOf[kind]
	if k.isWrong() {
		wire = wireTypes[k.chance.IntN(4)]
	}
	if wire != api.Run {
		return rec(no, wire, k.raw(), "")
	}
	switch {
	case kind == api.Text && !k.isWrong():
		return str(no, []string{"", "a", "b", "é"}[k.chance.IntN(4)])
	case kind == api.Sub && deep > 0:
		return run(no, k.message(ref, deep))
	case kind == api.Sub && !k.isWrong():
		return run(no)
	}
	return str(no, []string{"", "\xff", "\x08\x01", "\xc3"}[k.chance.IntN(4)])
}

// entry is an entry of a map.
func (k maker) entry(f api.FieldDef, deep int) []byte {
	var b []byte
	for range k.chance.IntN(4) {
		switch k.chance.IntN(5) {
		case 0, 1:
			b = join(b, k.record(1, f.Key, 0, deep))
		case 2, 3:
			b = join(b, k.record(2, f.Kind, f.Ref, deep))
		default:
			b = join(b, k.record(3+k.chance.IntN(30), k.chance.IntN(api.Sub), 0, deep))
		}
	}
	return run(f.No, b)
}

// field is a record of a field.
func (k maker) field(f api.FieldDef, deep int) []byte {
	switch {
	case f.Key != api.NoKey && !k.isWrong():
		return k.entry(f, deep-1)
	case f.Rep && f.Kind < api.Text && k.chance.IntN(2) == 0:
		b := many(f.Kind, slices.Repeat([]uint64{k.raw()}, k.chance.IntN(4))...)
		if k.isWrong() {
			b = append(b, 200)
		}
		return run(f.No, b)
	}
	return k.record(f.No, f.Kind, f.Ref, deep-1)
}

// message are the bytes of a message of m.
func (k maker) message(m, deep int) []byte {
	var b []byte
	fields := k.s.M[m].F
	for range k.chance.IntN(9) {
		if len(fields) == 0 || k.chance.IntN(12) == 0 {
			b = join(b, k.record(unknown+k.chance.IntN(40), k.chance.IntN(api.Sub), 0, deep))
			continue
		}
		// The same few fields are taken often, so that they stand several times.
		at := k.chance.IntN(len(fields))
		if k.chance.IntN(2) == 0 {
			at = (m + 3*k.chance.IntN(4)) % len(fields)
		}
		b = join(b, k.field(fields[at], deep))
	}
	return b
}

// someSchema is some schema that may be.
func someSchema(chance *rand.Rand) api.Schema {
	s := api.Schema{M: make([]api.MsgDef, 1+chance.IntN(3)), E: []api.EnumDef{{Name: "E", V: []string{"Z"}, N: []int64{0}}}}
	for m := range s.M {
		s.M[m].Name = fmt.Sprint("M", m)
		no := 0
		for i := range 1 + chance.IntN(8) {
			no += 1 + chance.IntN(3)
			f := api.FieldDef{No: no, Name: fmt.Sprint("f", i), Kind: chance.IntN(api.Kinds), Key: api.NoKey}
			if f.Kind == api.Sub {
				f.Ref = chance.IntN(len(s.M))
			}
			switch chance.IntN(5) {
			case 0:
				f.Rep = true
			case 1:
				f.Key = keyKinds[chance.IntN(len(keyKinds))]
			case 2, 3:
				f.One = chance.IntN(3)
			}
			s.M[m].F = append(s.M[m].F, f)
		}
	}
	return s
}

// P11.2, P11.3: messages made by chance, right ones and wrong ones, of many schemas.
func TestDecodeByChance(t *testing.T) {
	chance := rand.New(rand.NewPCG(11, 2))
	fixed := []api.Schema{whole(), read(t, small)}
	fine, wrong := 0, map[api.Errno]int{}
	for i := range 20000 {
		s := fixed[i%2]
		if i%4 > 1 {
			s = someSchema(chance)
		}
		if !table.May(s) {
			t.Fatalf("%+v may not be", s)
		}
		k := maker{chance, s, []float64{0, 0.02, 0.1}[i%3]}
		m := chance.IntN(len(s.M))
		b := k.message(m, 4)
		hold(t, s, m, b)
		if _, err := decode.Decode(s, m, b); err != api.OK {
			wrong[err]++
			continue
		}
		fine++
	}
	if fine < 8000 || wrong[api.ErrWire] < 500 || wrong[api.ErrUtf] < 100 || wrong[api.ErrCut] < 200 {
		t.Errorf("too few of a sort: %d, %v", fine, wrong)
	}
}

// P11.2: messages with a byte changed, put in, or left away, and those that are cut.
func TestDecodeChanged(t *testing.T) {
	chance := rand.New(rand.NewPCG(11, 3))
	fixed := []api.Schema{whole(), read(t, small)}
	for i := range 6000 {
		s := fixed[i%2]
		m := chance.IntN(2)
		b := maker{chance, s, 0}.message(m, 4)
		if len(b) == 0 {
			continue
		}
		at := chance.IntN(len(b))
		for _, changed := range [][]byte{
			b[:at],
			b[at:],
			slices.Delete(slices.Clone(b), at, at+1),
			slices.Insert(slices.Clone(b), at, byte(chance.Uint32())),
			join(b[:at], []byte{b[at] ^ 1<<chance.IntN(8)}, b[at+1:]),
			join(b[:at], []byte{b[at] + 1}, b[at+1:]),
			join(b[:at], []byte{b[at] - 1}, b[at+1:]),
		} {
			hold(t, s, m, changed)
		}
	}
}

// P11.2: all short bytes of few, so chosen that many of them are records.
func TestDecodeShort(t *testing.T) {
	s := read(t, "message A { int64 a = 1; repeated int64 r = 2; A s = 3; map<int64, A> m = 4; oneof o { string p = 5; A q = 6; } }")
	few := []byte{0, 1, 2, 8, 16, 18, 26, 34, 42, 50, 128}
	var all func(b []byte, left int)
	all = func(b []byte, left int) {
		hold(t, s, 0, b)
		for _, c := range few {
			if left > 0 {
				all(append(b[:len(b):len(b)], c), left-1)
			}
		}
	}
	all(nil, 4)
}

// P11.2: each one byte, and each two, of messages with few fields.
func TestDecodeTwoBytes(t *testing.T) {
	s := read(t, "message A { int64 a = 1; string t = 2; fixed32 f = 3; A s = 15; }")
	for i := range 256 {
		hold(t, s, 0, []byte{byte(i)})
		for j := range 256 {
			hold(t, s, 0, []byte{byte(i), byte(j)})
		}
	}
}

// P11.2, T2: records of different fields may stand in any order, unless they are in one oneof: the message is the same.
func TestOrderOfFields(t *testing.T) {
	s := read(t, small)
	parts := [][]byte{join(vr(1, 5), vr(1, 6)), run(2, uv(2), uv(4)), join(run(4, vr(1, 1)), run(4, vr(2, 2))), entry(5, str(1, "k")), join(vr(6, 1), run(7)), str(9, "l"), entry(10, vr(1, 1)), join(vr(19, 1), vr(18, 0)), vr(99, 1)}
	want, err := decode.Decode(s, 0, join(parts...))
	if err != api.OK {
		t.Fatalf("%d", err)
	}
	chance := rand.New(rand.NewPCG(11, 4))
	for range 300 {
		chance.Shuffle(len(parts), func(i, j int) { parts[i], parts[j] = parts[j], parts[i] })
		if x, err := decode.Decode(s, 0, join(parts...)); err != api.OK || text(x) != text(want) {
			t.Fatalf("%s, %d, not %s", text(x), err, text(want))
		}
	}
}

// P11.2, T2: a message in two records is that of both bytes, put together.
func TestPutTogether(t *testing.T) {
	chance := rand.New(rand.NewPCG(11, 5))
	s := read(t, small)
	for range 2000 {
		k := maker{chance, s, 0}
		a, b := k.message(0, 3), k.message(0, 3)
		both, err := decode.Decode(s, 0, join(a, b))
		if err != api.OK {
			t.Fatalf("%x, %x: %d", a, b, err)
		}
		for _, no := range []int{4, 7} {
			x, err := decode.Decode(s, 0, join(run(no, a), run(no, b)))
			if err != api.OK || text(x) != text(msg(slot(no, api.Val{M: []api.Msg{both}}))) {
				t.Fatalf("%x, %x: %s, %d, not %s", a, b, text(x), err, text(both))
			}
		}
		x, err := decode.Decode(s, 0, entry(5, run(2, a), run(2, b)))
		if err != api.OK || text(x) != text(msg(pairs(5, txts(""), vals(api.Val{M: []api.Msg{both}})))) {
			t.Fatalf("%x, %x: %s, %d, not %s", a, b, text(x), err, text(both))
		}
	}
}

// scramble changes all that can be reached from a message.
func scramble(m api.Msg) {
	for i := range m.F {
		for _, l := range [][]api.Val{m.F[i].K, m.F[i].V} {
			for k := range l {
				for _, x := range l[k].M {
					scramble(x)
				}
				clear(l[k].M)
				l[k] = api.Val{N: -77, S: "changed"}
			}
		}
		m.F[i] = api.Slot{No: -77}
	}
}

// P11.2, R3, R5: later changes to the bytes, or to what is told, change nothing of the other, nor of what is told again.
func TestStays(t *testing.T) {
	s := whole()
	chance := rand.New(rand.NewPCG(11, 6))
	for range 1000 {
		b := maker{chance, s, 0}.message(forms, 4)
		was := slices.Clone(b)
		x, err := decode.Decode(s, forms, b)
		told := text(x)
		for i := range b {
			b[i] ^= 255
		}
		if err != api.OK || text(x) != told {
			t.Fatalf("%x: later changes to the bytes change %s to %s", was, told, text(x))
		}
		copy(b, was)
		scramble(x)
		again, _ := decode.Decode(s, forms, b)
		if text(again) != told || !bytes.Equal(b, was) {
			t.Fatalf("%x is %s, and then %s", was, told, text(again))
		}
	}
	if !table.Same(s, whole()) {
		t.Errorf("the schema is changed to %+v", s)
	}
}

// P11.2, R3: bytes with room behind them, and bytes among others, stay, and nothing of what stands behind is asked.
func TestRoom(t *testing.T) {
	s := read(t, small)
	room := join(vr(1, 5), run(4, vr(1, 1)), vr(1, 7), []byte{0})
	was := slices.Clone(room)
	for size := range len(room) + 1 {
		x, err := decode.Decode(s, 0, room[:size])
		y, other := decode.Decode(s, 0, slices.Clone(room[:size]))
		if err != other || text(x) != text(y) {
			t.Errorf("%d bytes: %s, %d, and %s, %d", size, text(x), err, text(y), other)
		}
		hold(t, s, 0, room[:size])
	}
	if !bytes.Equal(room, was) {
		t.Errorf("%x is changed to %x", was, room)
	}
}

// P1, R1: very many records of each form, and Runs within one another far beyond what may be.
func TestVeryMany(t *testing.T) {
	s := read(t, small)
	const size = 100000
	for i, c := range []struct {
		b    []byte
		want int
		err  api.Errno
	}{
		{bytes.Repeat(vr(1, 5), size), 1, api.OK},
		{bytes.Repeat(vr(2, 5), size), size, api.OK},
		{run(2, bytes.Repeat(uv(2), size)), size, api.OK},
		{bytes.Repeat(run(2, uv(2), uv(4)), size), 2 * size, api.OK},
		{bytes.Repeat(run(4, vr(2, 2)), size), 1, api.OK},
		{bytes.Repeat(run(4, run(4, vr(2, 2))), size), 1, api.OK},
		{bytes.Repeat(run(7, vr(2, 2)), size), 1, api.OK},
		{bytes.Repeat(join(run(7, vr(2, 2)), vr(6, 1)), size), 1, api.OK},
		{bytes.Repeat(run(11), size), size, api.OK},
		{bytes.Repeat(entry(10), size), 1, api.OK},
		{bytes.Repeat(entry(5, run(2, vr(1, 1))), size), 1, api.OK},
		{bytes.Repeat(vr(99, 1), size), 0, api.OK},
		{join(bytes.Repeat(run(11, vr(1, 1)), size), []byte{0}), 0, api.ErrTag},
		{bytes.Repeat([]byte{128}, size), 0, api.ErrVarint},
		{str(3, string(bytes.Repeat([]byte("é"), size))), 1, api.OK},
		{nest(4000, nil, arounds()[0]), 0, api.ErrDeep},
		{nest(4000, nil, arounds()[3]), 0, api.ErrDeep},
		{run(99, nest(4000, nil, arounds()[0])), 0, api.OK},
	} {
		x, err := decode.Decode(s, 0, c.b)
		many := 0
		for _, slot := range x.F {
			many += len(slot.V)
		}
		if err != c.err || many != c.want {
			t.Errorf("%d: %d values, %d", i, many, err)
		}
	}
	var b []byte
	for i := range size {
		b = append(b, entry(10, vr(1, uint64(size-i)), vr(2, uint64(i)))...)
	}
	x, err := decode.Decode(s, 0, b)
	if err != api.OK || len(x.F) != 1 || len(x.F[0].K) != size || x.F[0].K[0].N != 1 || x.F[0].V[0].N != size-1 {
		t.Errorf("very many keys: %d", err)
	}
}

// P1, R4: zero values, and nil ones.
func TestZeroValues(t *testing.T) {
	x, err := decode.Decode(api.Schema{}, 0, nil)
	if err != api.ErrArg || len(x.F) > 0 {
		t.Errorf("of no schema: %s, %d", text(x), err)
	}
	s := api.Schema{M: make([]api.MsgDef, 1)}
	for _, b := range [][]byte{nil, {}, {8, 1}, {8}, {0}} {
		hold(t, s, 0, b)
	}
	// A field whose Key is 0 is a map, by numbers.
	s.M[0].F = []api.FieldDef{{No: 1}}
	for _, b := range [][]byte{nil, {8, 1}, {10, 0}, {10, 4, 8, 1, 16, 1}, {10, 1}} {
		hold(t, s, 0, b)
	}
	if l, err := decode.Numbers(0, nil, 0, 0); err != api.OK || len(l) > 0 {
		t.Errorf("no numbers: %v, %d", l, err)
	}
}
