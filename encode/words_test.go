package encode_test

import (
	"bytes"
	"encoding/binary"
	"fmt"
	"math"
	"slices"
	"strings"
	"testing"
	"unicode/utf8"
	"unsafe"

	"truffle/api"
	"truffle/decode"
	"truffle/encode"
	"truffle/table"
)

// The messages of the schema that most tests ask.
const (
	forms = iota // each kind: alone, repeated, and in a oneof
	maps         // each key's kind, and each kind of values
	few          // the first number, and the last one
	none         // no fields
	msgs
)

// Where the fields of message forms begin, by their kinds.
const (
	alone    = 1
	repeated = 11
	inOne    = 21
)

// Where the fields of message maps begin, by the place of the key's kind, and by the kinds of their values.
const (
	byKey     = 1
	textToAny = 11
	numToAny  = 21
)

// keyKinds are the chapter's.
var keyKinds = []int{api.Int, api.Sint, api.Uint, api.Flag, api.Fix4, api.Fix8, api.Text}

// wireOf are the wire types by kind.
var wireOf = []int{api.Var, api.Var, api.Var, api.Var, api.Four, api.Eight, api.Var, api.Run, api.Run, api.Run}

// refOf is what a field of a kind refers to: the messages may hold others, maps, nothing.
func refOf(kind, sub int) int {
	switch kind {
	case api.Sub:
		return sub
	case api.Enum:
		return 1
	}
	return 0
}

// whole is a schema of all forms of fields, in memory of its own.
func whole() api.Schema {
	s := api.Schema{
		M: []api.MsgDef{forms: {Name: "Forms"}, maps: {Name: "Maps"}, few: {Name: "Few"}, none: {Name: "None"}},
		E: []api.EnumDef{{Name: "E", V: []string{"Z"}, N: []int64{0}}, {Name: "F", V: []string{"Z", "Y"}, N: []int64{0, 7}}},
	}
	add := func(m int, f api.FieldDef) {
		f.Name = fmt.Sprint("f", f.No)
		s.M[m].F = append(s.M[m].F, f)
	}
	for kind := range api.Kinds {
		add(forms, api.FieldDef{No: alone + kind, Kind: kind, Ref: refOf(kind, forms), Key: api.NoKey})
	}
	for kind := range api.Kinds {
		add(forms, api.FieldDef{No: repeated + kind, Kind: kind, Ref: refOf(kind, maps), Rep: true, Key: api.NoKey})
	}
	for kind := range api.Kinds {
		add(forms, api.FieldDef{No: inOne + kind, Kind: kind, Ref: refOf(kind, few), Key: api.NoKey, One: oneOf(kind)})
	}
	for i, key := range keyKinds {
		add(maps, api.FieldDef{No: byKey + i, Kind: api.Sub, Ref: forms, Key: key})
	}
	for kind := range api.Kinds {
		add(maps, api.FieldDef{No: textToAny + kind, Kind: kind, Ref: refOf(kind, maps), Key: api.Text})
	}
	for kind := range api.Kinds {
		add(maps, api.FieldDef{No: numToAny + kind, Kind: kind, Ref: refOf(kind, few), Key: api.Sint})
	}
	add(few, api.FieldDef{No: 1, Kind: api.Int, Key: api.NoKey})
	add(few, api.FieldDef{No: api.MaxNo, Kind: api.Text, Key: api.NoKey})
	return s
}

// oneOf is the oneof that the field of a kind is in: there are the first one, and the last one that may be.
func oneOf(kind int) int {
	if kind < 5 {
		return 1
	}
	return 30
}

// small is a schema with a field of each form, of message A.
const small = `
message A {
  int64 a = 1; repeated sint64 r = 2; string t = 3; A s = 4; map<string, A> m = 5;
  oneof o { bool p = 6; A q = 7; string w = 8; }
  repeated string l = 9; map<int64, E> k = 10; repeated A z = 11; fixed32 f = 12; sfixed64 g = 13;
  repeated fixed32 h = 14; bytes y = 15; E e = 16; map<bool, string> n = 17; oneof o2 { int64 b = 18; uint32 c = 19; } B d = 20;
}
message B { bytes x = 1; A a = 2; }
enum E { Z = 0; Y = 5; }`

// read is the schema of a text.
func read(t *testing.T, s string) api.Schema {
	t.Helper()
	schema, at, err := table.Read(s)
	if err != api.OK {
		t.Fatalf("%d at %d of %s", err, at, s)
	}
	return schema
}

// join is bytes, one behind the other.
func join(l ...[]byte) []byte { return bytes.Join(l, nil) }

// uv is a number by 7 bits each, long the same in so many bytes, as it need not be.
func uv(n uint64) []byte { return binary.AppendUvarint(nil, n) }

func long(n uint64, size int) []byte {
	b := uv(n)
	for len(b) < size {
		b[len(b)-1] |= 128
		b = append(b, 0)
	}
	return b
}

func head(no, wire int) []byte { return uv(uint64(no)<<3 | uint64(wire)) }

// vr is a record that is a number, run one that is these bytes, four and eight are those of a fixed size.
func vr(no int, n uint64) []byte { return join(head(no, api.Var), uv(n)) }
func run(no int, l ...[]byte) []byte {
	return join(head(no, api.Run), uv(uint64(len(join(l...)))), join(l...))
}
func str(no int, s string) []byte      { return run(no, []byte(s)) }
func four(no int, n uint32) []byte     { return binary.LittleEndian.AppendUint32(head(no, api.Four), n) }
func eight(no int, n uint64) []byte    { return binary.LittleEndian.AppendUint64(head(no, api.Eight), n) }
func entry(no int, l ...[]byte) []byte { return run(no, l...) }

// fieldOf is a message's field.
func fieldOf(s api.Schema, m, no int) (api.FieldDef, bool) {
	for _, f := range s.M[m].F {
		if f.No == no {
			return f, true
		}
	}
	return api.FieldDef{}, false
}

// num is a value that is a number, txt one that is a text, sub one that has messages, in one that has one of these slots.
func num(n int64) api.Val      { return api.Val{N: n} }
func txt(s string) api.Val     { return api.Val{S: s} }
func sub(l ...api.Msg) api.Val { return api.Val{M: l} }
func in(l ...api.Slot) api.Val { return sub(msg(l...)) }

// vals is a list of values, nums one of numbers, txts one of texts.
func vals(l ...api.Val) []api.Val { return l }

func nums(l ...int64) []api.Val {
	var out []api.Val
	for _, n := range l {
		out = append(out, num(n))
	}
	return out
}

func txts(l ...string) []api.Val {
	var out []api.Val
	for _, s := range l {
		out = append(out, txt(s))
	}
	return out
}

// msg is a message of these slots, slot one of values in V, pairs one of values in K and V, one by one.
func msg(l ...api.Slot) api.Msg             { return api.Msg{F: l} }
func slot(no int, l ...api.Val) api.Slot    { return api.Slot{No: no, V: l} }
func pairs(no int, k, v []api.Val) api.Slot { return api.Slot{No: no, K: k, V: v} }

// text is all that is in a message: of two that differ in anything it is another one.
func text(m api.Msg) string {
	var b strings.Builder
	b.WriteString("{")
	for _, s := range m.F {
		fmt.Fprintf(&b, "<%d K%s V%s>", s.No, valsText(s.K), valsText(s.V))
	}
	b.WriteString("}")
	return b.String()
}

func valsText(l []api.Val) string {
	var b strings.Builder
	for _, v := range l {
		fmt.Fprintf(&b, "(%d %q", v.N, v.S)
		for _, m := range v.M {
			b.WriteString(text(m))
		}
		b.WriteString(")")
	}
	return "[" + b.String() + "]"
}

// limits are the least and the greatest number of a kind that counts.
func limits(kind int) (least, greatest int64) {
	switch kind {
	case api.Uint, api.Fix4:
		return 0, 1<<32 - 1
	case api.Flag:
		return 0, 1
	case api.Enum:
		return -1 << 31, 1<<31 - 1
	}
	return math.MinInt64, math.MaxInt64
}

// wantOfKind is what the words ask of a value of a kind.
func wantOfKind(s api.Schema, kind, ref int, v api.Val) bool {
	if kind < 0 || kind > api.Sub {
		return false
	}
	if kind == api.Sub {
		return v.N == 0 && v.S == "" && len(v.M) == 1 && wantOf(s, ref, v.M[0])
	}
	if len(v.M) > 0 {
		return false
	}
	if kind == api.Text || kind == api.Raw {
		return v.N == 0 && (kind == api.Raw || utf8.ValidString(v.S))
	}
	least, greatest := limits(kind)
	return v.S == "" && least <= v.N && v.N <= greatest
}

// wantOf is what the words ask of a message of message m.
func wantOf(s api.Schema, m int, x api.Msg) bool {
	if m < 0 || m >= len(s.M) {
		return false
	}
	numbers, ones := map[int]int{}, map[int]int{}
	for _, slot := range x.F {
		f, ok := fieldOf(s, m, slot.No)
		numbers[slot.No]++
		ones[f.One]++
		if !ok || numbers[slot.No] > 1 || f.One > 0 && ones[f.One] > 1 {
			return false
		}
		for _, v := range slot.V {
			if !wantOfKind(s, f.Kind, f.Ref, v) {
				return false
			}
		}
		for _, k := range slot.K {
			if f.Key == api.NoKey || !wantOfKind(s, f.Key, 0, k) {
				return false
			}
		}
		if f.Key != api.NoKey && len(slot.K) != len(slot.V) || f.Key == api.NoKey && !f.Rep && len(slot.V) != 1 {
			return false
		}
	}
	return true
}

// wantDeep is how deep messages are, told level by level.
func wantDeep(level ...api.Msg) int {
	deep := 0
	for len(level) > 0 {
		var within []api.Msg
		for _, m := range level {
			for _, s := range m.F {
				for _, v := range slices.Concat(s.K, s.V) {
					within = append(within, v.M...)
				}
			}
		}
		level = within
		deep++
	}
	return deep
}

// wantMay is what P10.1 asks of May, wantVal what it asks of Val, of a schema that may be.
func wantMay(s api.Schema, m int, x api.Msg) bool {
	return wantDeep(x) <= 64 && wantOf(s, m, x)
}

func wantVal(s api.Schema, kind, ref int, v api.Val) bool {
	return wantDeep(v.M...) <= 63 && wantOfKind(s, kind, ref, v)
}

// wantNormal is what P10.2 asks of Normal, of a message that may be: a schema's fields stand by rising numbers.
func wantNormal(s api.Schema, m int, x api.Msg) api.Msg {
	var out api.Msg
	for _, f := range s.M[m].F {
		at := slices.IndexFunc(x.F, func(slot api.Slot) bool { return slot.No == f.No })
		if at < 0 || len(x.F[at].V) == 0 {
			continue
		}
		slot := x.F[at]
		single := !f.Rep && f.Key == api.NoKey && f.One == 0 && f.Kind != api.Sub
		if single && slot.V[0].N == 0 && slot.V[0].S == "" {
			continue
		}
		norm := api.Slot{No: f.No}
		for _, i := range wantEntries(f, slot) {
			v := api.Val{N: slot.V[i].N, S: slot.V[i].S}
			for _, y := range slot.V[i].M {
				v.M = append(v.M, wantNormal(s, f.Ref, y))
			}
			norm.V = append(norm.V, v)
			if f.Key != api.NoKey {
				norm.K = append(norm.K, slot.K[i])
			}
		}
		out.F = append(out.F, norm)
	}
	return out
}

// wantEntries are the places of the values that stay, in the order in which they do.
func wantEntries(f api.FieldDef, slot api.Slot) []int {
	var out []int
	for i := range slot.V {
		again := func(k api.Val) bool { return k.N == slot.K[i].N && k.S == slot.K[i].S }
		if f.Key == api.NoKey || !slices.ContainsFunc(slot.K[i+1:], again) {
			out = append(out, i)
		}
	}
	if f.Key == api.NoKey {
		return out
	}
	slices.SortFunc(out, func(a, b int) int {
		x, y := slot.K[a], slot.K[b]
		switch {
		case x.N < y.N:
			return -1
		case x.N > y.N:
			return 1
		}
		return strings.Compare(x.S, y.S)
	})
	return out
}

// wantNumber are the bytes of a number of a kind that counts, as its wire type says.
func wantNumber(kind int, n int64) []byte {
	switch kind {
	case api.Fix4:
		return binary.LittleEndian.AppendUint32(nil, uint32(n))
	case api.Fix8:
		return binary.LittleEndian.AppendUint64(nil, uint64(n))
	case api.Sint:
		return binary.AppendVarint(nil, n)
	}
	return uv(uint64(n))
}

// wantRecord is what P12.1 asks of Value, of a value of a kind and a number that may be.
func wantRecord(s api.Schema, kind, ref, no int, v api.Val) []byte {
	switch kind {
	case api.Sub:
		return run(no, wantBytes(s, ref, v.M[0]))
	case api.Text, api.Raw:
		return str(no, v.S)
	}
	return join(head(no, wireOf[kind]), wantNumber(kind, v.N))
}

// wantBytes is what P12.2 asks of Encode, of a message that may be.
func wantBytes(s api.Schema, m int, x api.Msg) []byte {
	var b []byte
	for _, slot := range wantNormal(s, m, x).F {
		f, _ := fieldOf(s, m, slot.No)
		isPacked := f.Rep && f.Kind <= api.Enum
		var packed []byte
		for i, v := range slot.V {
			switch {
			case isPacked:
				packed = join(packed, wantNumber(f.Kind, v.N))
			case f.Key != api.NoKey:
				b = join(b, run(f.No, wantRecord(s, f.Key, 0, 1, slot.K[i]), wantRecord(s, f.Kind, f.Ref, 2, v)))
			default:
				b = join(b, wantRecord(s, f.Kind, f.Ref, f.No, v))
			}
		}
		if isPacked {
			b = join(b, run(f.No, packed))
		}
	}
	return b
}

// hold holds Encode against what P12.2 asks, and what follows (P12.3), of a schema that may be; R3 and R4, too.
func hold(t *testing.T, s api.Schema, m int, x api.Msg) {
	t.Helper()
	was := text(x)
	b, err := encode.Encode(s, m, x)
	if text(x) != was {
		t.Fatalf("%d, %.300s is changed to %.300s", m, was, text(x))
	}
	if !wantMay(s, m, x) {
		if err != api.ErrArg || len(b) > 0 {
			t.Fatalf("%d, %.300s, that may not be, is %.300x, %d", m, was, b, err)
		}
		return
	}
	if want := wantBytes(s, m, x); err != api.OK || !bytes.Equal(b, want) {
		t.Fatalf("%d, %.300s is %.300x, %d, not %.300x", m, was, b, err, want)
	}
	holdOwn(t, b, x)
	back, err := decode.Decode(s, m, b)
	normal := wantNormal(s, m, x)
	if err != api.OK || text(back) != text(normal) {
		t.Fatalf("%d, %.300s: %.300x is decoded as %.300s, %d, not %.300s", m, was, b, text(back), err, text(normal))
	}
	for _, same := range []api.Msg{normal, back} {
		if again, err := encode.Encode(s, m, same); err != api.OK || !bytes.Equal(again, b) {
			t.Fatalf("%d, %.300s is %.300x, and normal %.300x, %d", m, was, b, again, err)
		}
	}
}

// holdValue holds Value against what P12.1 asks, of a schema that may be; R3 and R4, too.
func holdValue(t *testing.T, s api.Schema, kind, ref, no int, v api.Val) {
	t.Helper()
	was := valsText(vals(v))
	b, err := encode.Value(s, kind, ref, no, v)
	if valsText(vals(v)) != was {
		t.Fatalf("%.300s is changed to %.300s", was, valsText(vals(v)))
	}
	if no < 1 || no > 1<<29-1 || !wantVal(s, kind, ref, v) {
		if err != api.ErrArg || len(b) > 0 {
			t.Fatalf("kind %d, ref %d, number %d, %.300s: %.300x, %d", kind, ref, no, was, b, err)
		}
		return
	}
	if want := wantRecord(s, kind, ref, no, v); err != api.OK || !bytes.Equal(b, want) {
		t.Fatalf("kind %d, ref %d, number %d, %.300s: %.300x, %d, not %.300x", kind, ref, no, was, b, err, want)
	}
	holdOwn(t, b, msg(slot(0, v)))
}

// memory is where a list lies, all its places counted.
type memory struct{ from, upto uintptr }

func memoryOf[T any](l []T) []memory {
	var one T
	if cap(l) == 0 {
		return nil
	}
	from := uintptr(unsafe.Pointer(unsafe.SliceData(l)))
	return []memory{{from, from + uintptr(cap(l))*unsafe.Sizeof(one)}}
}

// texts are where all texts of a message lie.
func texts(m api.Msg) []memory {
	var out []memory
	for _, s := range m.F {
		for _, v := range slices.Concat(s.K, s.V) {
			if v.S != "" {
				from := uintptr(unsafe.Pointer(unsafe.StringData(v.S)))
				out = append(out, memory{from, from + uintptr(len(v.S))})
			}
			for _, x := range v.M {
				out = append(out, texts(x)...)
			}
		}
	}
	return out
}

// holdOwn holds that bytes do not lie in a message's texts: all its places counted (R3).
func holdOwn(t *testing.T, b []byte, x api.Msg) {
	t.Helper()
	for _, own := range memoryOf(b) {
		for _, s := range texts(x) {
			if s.from < own.upto && own.from < s.upto {
				t.Fatalf("%.300s: its bytes share memory with a text", text(x))
			}
		}
	}
}

// nest is a message so deep, each in the one around it by what around tells.
func nest(deep int, last api.Msg, around func(x api.Msg) api.Msg) api.Msg {
	for range deep - 1 {
		last = around(last)
	}
	return last
}
