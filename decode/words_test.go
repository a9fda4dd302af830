package decode_test

import (
	"bytes"
	"cmp"
	"encoding/binary"
	"fmt"
	"math/big"
	"slices"
	"strings"
	"testing"
	"unicode/utf8"
	"unsafe"

	"truffle/api"
	"truffle/decode"
	"truffle/record"
	"truffle/table"
	"truffle/typed"
)

// The messages of the schema that most tests ask.
const (
	forms = iota // each kind: alone, repeated, and in a oneof
	maps         // each key's kind, and each kind of values
	few          // the first number, and the last one
	none         // no fields
	msgs
)

// Where the fields of message forms begin, by their kinds.
const (
	alone    = 1
	repeated = 11
	inOne    = 21
)

// Where the fields of message maps begin, by the place of the key's kind, and by the kinds of their values.
const (
	byKey     = 1
	textToAny = 11
	numToAny  = 21
)

// keyKinds are the chapter's.
var keyKinds = []int{api.Int, api.Sint, api.Uint, api.Flag, api.Fix4, api.Fix8, api.Text}

// wireOf are the wire types by kind, wireTypes those that there are.
var (
	wireOf    = []int{api.Var, api.Var, api.Var, api.Var, api.Four, api.Eight, api.Var, api.Run, api.Run, api.Run}
	wireTypes = []int{api.Var, api.Eight, api.Run, api.Four}
)

// refOf is what a field of a kind refers to.
func refOf(kind, sub int) int {
	switch kind {
	case api.Sub:
		return sub
	case api.Enum:
		return 1
	}
	return 0
}

// oneOf is the oneof that the field of a kind is in: there are the first one, and the last one that may be.
func oneOf(kind int) int {
	if kind%2 == 1 {
		return 1
	}
	return 30
}

// whole is a schema of all forms of fields, in memory of its own.
func whole() api.Schema {
	s := api.Schema{
		M: []api.MsgDef{forms: {Name: "Forms"}, maps: {Name: "Maps"}, few: {Name: "Few"}, none: {Name: "None"}},
		E: []api.EnumDef{{Name: "E", V: []string{"Z"}, N: []int64{0}}, {Name: "F", V: []string{"Z", "Y"}, N: []int64{0, 7}}},
	}
	add := func(m int, f api.FieldDef) {
		f.Name = fmt.Sprint("f", f.No)
		s.M[m].F = append(s.M[m].F, f)
	}
	for kind := range api.Kinds {
		add(forms, api.FieldDef{No: alone + kind, Kind: kind, Ref: refOf(kind, forms), Key: api.NoKey})
	}
	for kind := range api.Kinds {
		add(forms, api.FieldDef{No: repeated + kind, Kind: kind, Ref: refOf(kind, maps), Rep: true, Key: api.NoKey})
	}
	for kind := range api.Kinds {
		add(forms, api.FieldDef{No: inOne + kind, Kind: kind, Ref: refOf(kind, forms), Key: api.NoKey, One: oneOf(kind)})
	}
	for i, key := range keyKinds {
		add(maps, api.FieldDef{No: byKey + i, Kind: api.Sub, Ref: forms, Key: key})
	}
	for kind := range api.Kinds {
		add(maps, api.FieldDef{No: textToAny + kind, Kind: kind, Ref: refOf(kind, maps), Key: api.Text})
	}
	for kind := range api.Kinds {
		add(maps, api.FieldDef{No: numToAny + kind, Kind: kind, Ref: refOf(kind, few), Key: api.Sint})
	}
	add(few, api.FieldDef{No: 1, Kind: api.Int, Key: api.NoKey})
	add(few, api.FieldDef{No: api.MaxNo, Kind: api.Text, Key: api.NoKey})
	return s
}

// small is a schema with a field of each form, of message A.
const small = `
message A {
  int64 a = 1; repeated sint64 r = 2; string t = 3; A s = 4; map<string, A> m = 5;
  oneof o { bool p = 6; A q = 7; string w = 8; }
  repeated string l = 9; map<int64, E> k = 10; repeated A z = 11; fixed32 f = 12; sfixed64 g = 13;
  repeated fixed32 h = 14; bytes y = 15; E e = 16; map<bool, string> n = 17; oneof o2 { int64 b = 18; uint32 c = 19; } B d = 20;
}
message B { bytes x = 1; A a = 2; }
enum E { Z = 0; Y = 5; }`

// read is the schema of a text.
func read(t *testing.T, s string) api.Schema {
	t.Helper()
	schema, at, err := table.Read(s)
	if err != api.OK {
		t.Fatalf("%d at %d of %s", err, at, s)
	}
	return schema
}

// join is bytes, one behind the other.
func join(l ...[]byte) []byte { return bytes.Join(l, nil) }

// uv is a number by 7 bits each, long the same in so many bytes, as it need not be.
func uv(n uint64) []byte { return binary.AppendUvarint(nil, n) }

func long(n uint64, size int) []byte {
	b := uv(n)
	for len(b) < size {
		b[len(b)-1] |= 128
		b = append(b, 0)
	}
	return b
}

func head(no, wire int) []byte { return uv(uint64(no)<<3 | uint64(wire)) }

// vr is a record that is a number, run one that is these bytes, four and eight are those of a fixed size.
func vr(no int, n uint64) []byte { return join(head(no, api.Var), uv(n)) }
func run(no int, l ...[]byte) []byte {
	return join(head(no, api.Run), uv(uint64(len(join(l...)))), join(l...))
}
func str(no int, s string) []byte      { return run(no, []byte(s)) }
func four(no int, n uint32) []byte     { return binary.LittleEndian.AppendUint32(head(no, api.Four), n) }
func eight(no int, n uint64) []byte    { return binary.LittleEndian.AppendUint64(head(no, api.Eight), n) }
func entry(no int, l ...[]byte) []byte { return run(no, l...) }

// rec is some record of a wire type.
func rec(no, wire int, n uint64, s string) []byte {
	switch wire {
	case api.Eight:
		return eight(no, n)
	case api.Four:
		return four(no, uint32(n))
	case api.Run:
		return str(no, s)
	}
	return vr(no, n)
}

// num is a value that is a number, txt one that is a text, sub one that is a message of these slots.
func num(n int64) api.Val       { return api.Val{N: n} }
func txt(s string) api.Val      { return api.Val{S: s} }
func sub(l ...api.Slot) api.Val { return api.Val{M: []api.Msg{msg(l...)}} }

// vals is a list of values, nums one of numbers, txts one of texts.
func vals(l ...api.Val) []api.Val { return l }

func nums(l ...int64) []api.Val {
	var out []api.Val
	for _, n := range l {
		out = append(out, num(n))
	}
	return out
}

func txts(l ...string) []api.Val {
	var out []api.Val
	for _, s := range l {
		out = append(out, txt(s))
	}
	return out
}

// msg is a message of these slots, slot one of values in V, pairs one of values in K and V, one by one.
func msg(l ...api.Slot) api.Msg             { return api.Msg{F: l} }
func slot(no int, l ...api.Val) api.Slot    { return api.Slot{No: no, V: l} }
func pairs(no int, k, v []api.Val) api.Slot { return api.Slot{No: no, K: k, V: v} }

// text is all that is in a message: of two that differ in anything it is another one.
func text(m api.Msg) string {
	var b strings.Builder
	b.WriteString("{")
	for _, s := range m.F {
		fmt.Fprintf(&b, "<%d K%s V%s>", s.No, valsText(s.K), valsText(s.V))
	}
	b.WriteString("}")
	return b.String()
}

func valsText(l []api.Val) string {
	var b strings.Builder
	for _, v := range l {
		fmt.Fprintf(&b, "(%d %q", v.N, v.S)
		for _, m := range v.M {
			b.WriteString(text(m))
		}
		b.WriteString(")")
	}
	return "[" + b.String() + "]"
}

// wrap is a number modulo 2^bits, from 0 on, or, signed, from -2^(bits-1) on.
func wrap(n *big.Int, bits uint, signed bool) int64 {
	all := new(big.Int).Lsh(big.NewInt(1), bits)
	out := new(big.Int).Mod(n, all)
	if signed && out.Cmp(new(big.Int).Rsh(all, 1)) >= 0 {
		out.Sub(out, all)
	}
	return out.Int64()
}

// wantNum is the number of a kind that is written as a raw one.
func wantNum(kind int, raw uint64) int64 {
	n := new(big.Int).SetUint64(raw)
	switch kind {
	case api.Sint:
		half := new(big.Int).Rsh(n, 1)
		if raw%2 == 1 {
			half.Neg(half).Sub(half, big.NewInt(1))
		}
		return half.Int64()
	case api.Uint, api.Fix4:
		return wrap(n, 32, false)
	case api.Flag:
		return int64(n.Sign())
	case api.Enum:
		return wrap(n, 32, true)
	}
	return wrap(n, 64, true)
}

// wantRaw is the number that stands ahead, of a kind, and how many bytes it has.
func wantRaw(kind int, b []byte) (uint64, int, api.Errno) {
	if size := map[int]int{api.Fix4: 4, api.Fix8: 8}[kind]; size > 0 {
		if len(b) < size {
			return 0, 0, api.ErrCut
		}
		return binary.LittleEndian.Uint64(append(slices.Clone(b[:size]), make([]byte, 8)...)), size, api.OK
	}
	last := slices.IndexFunc(b, func(c byte) bool { return c < 128 })
	if last >= 10 || last < 0 && len(b) >= 10 {
		return 0, 0, api.ErrVarint
	}
	if last < 0 {
		return 0, 0, api.ErrCut
	}
	n := new(big.Int)
	for _, c := range slices.Backward(b[:last+1]) {
		n.Lsh(n, 7).Or(n, big.NewInt(int64(c&127)))
	}
	return n.Mod(n, new(big.Int).Lsh(big.NewInt(1), 64)).Uint64(), last + 1, api.OK
}

// wantNumbers is what P11.1 asks of Numbers.
func wantNumbers(kind int, b []byte, at, upto int) ([]int64, api.Errno) {
	if kind < 0 || kind > 6 || at < 0 || upto < at || upto > len(b) {
		return nil, api.ErrArg
	}
	var out []int64
	for b = b[at:upto]; len(b) > 0; {
		raw, size, err := wantRaw(kind, b)
		if err != api.OK {
			return nil, err
		}
		out = append(out, wantNum(kind, raw))
		b = b[size:]
	}
	return out, api.OK
}

// fieldOf is a message's field.
func fieldOf(s api.Schema, m, no int) (api.FieldDef, bool) {
	for _, f := range s.M[m].F {
		if f.No == no {
			return f, true
		}
	}
	return api.FieldDef{}, false
}

// isPacked tells whether a record is many numbers of a field.
func isPacked(f api.FieldDef, r api.Rec) bool {
	return f.Rep && f.Kind < api.Text && r.Wire == api.Run
}

// wantError is the first error of bytes that are a message of m, so deep: no message is made.
func wantError(s api.Schema, m int, b []byte, deep int) api.Errno {
	recs, last := record.All(b, 0, len(b))
	for _, r := range recs {
		body := b[r.From:r.Upto]
		f, ok := fieldOf(s, m, r.No)
		err := api.OK
		switch {
		case !ok:
		case isPacked(f, r):
			_, err = wantNumbers(f.Kind, body, 0, len(body))
		case f.Key == api.NoKey:
			err = wantValueError(s, f.Kind, f.Ref, r, body, deep)
		case r.Wire != api.Run:
			err = api.ErrWire
		case f.Kind == api.Sub && deep == 64:
			err = api.ErrDeep
		default:
			err = wantEntryError(s, f, body, deep)
		}
		if err != api.OK {
			return err
		}
	}
	return last
}

func wantEntryError(s api.Schema, f api.FieldDef, b []byte, deep int) api.Errno {
	recs, last := record.All(b, 0, len(b))
	for _, r := range recs {
		err := api.OK
		switch r.No {
		case 1:
			err = wantValueError(s, f.Key, 0, r, b[r.From:r.Upto], deep)
		case 2:
			err = wantValueError(s, f.Kind, f.Ref, r, b[r.From:r.Upto], deep)
		}
		if err != api.OK {
			return err
		}
	}
	return last
}

func wantValueError(s api.Schema, kind, ref int, r api.Rec, body []byte, deep int) api.Errno {
	switch {
	case r.Wire != wireOf[kind]:
		return api.ErrWire
	case kind == api.Text && !utf8.Valid(body):
		return api.ErrUtf
	case kind == api.Sub && deep == 64:
		return api.ErrDeep
	case kind == api.Sub:
		return wantError(s, ref, body, deep+1)
	}
	return api.OK
}

// wantMsg is the message of bytes that have no error, field by field: a message's records are one, put together; of a oneof those that stand behind the last one of another field count.
func wantMsg(s api.Schema, m int, b []byte) api.Msg {
	var out api.Msg
	recs, _ := record.All(b, 0, len(b))
	for _, f := range s.M[m].F {
		var own []api.Rec
		for _, r := range recs {
			other, ok := fieldOf(s, m, r.No)
			switch {
			case r.No == f.No:
				own = append(own, r)
			case ok && f.One != 0 && other.One == f.One:
				own = nil
			}
		}
		if slot := wantSlot(s, f, own, b); len(slot.V) > 0 {
			out.F = append(out.F, slot)
		}
	}
	return out
}

func wantSlot(s api.Schema, f api.FieldDef, recs []api.Rec, b []byte) api.Slot {
	out := api.Slot{No: f.No}
	switch {
	case f.Key != api.NoKey:
		return wantMap(s, f, recs, b)
	case f.Rep:
		for _, r := range recs {
			if isPacked(f, r) {
				l, _ := wantNumbers(f.Kind, b, r.From, r.Upto)
				out.V = append(out.V, nums(l...)...)
				continue
			}
			out.V = append(out.V, wantVal(s, f.Kind, f.Ref, []api.Rec{r}, b))
		}
	case len(recs) > 0:
		v := wantVal(s, f.Kind, f.Ref, recs, b)
		if f.One != 0 || v.N != 0 || v.S != "" || len(v.M) > 0 {
			out.V = []api.Val{v}
		}
	}
	return out
}

// wantMap are the entries of a map, the last one of each key, by rising keys.
func wantMap(s api.Schema, f api.FieldDef, recs []api.Rec, b []byte) api.Slot {
	type pair struct{ k, v api.Val }
	var all []pair
	for _, r := range recs {
		var keys, values []api.Rec
		body := b[r.From:r.Upto]
		parts, _ := record.All(body, 0, len(body))
		for _, p := range parts {
			switch p.No {
			case 1:
				keys = append(keys, p)
			case 2:
				values = append(values, p)
			}
		}
		k, v := wantVal(s, f.Key, 0, keys, body), wantVal(s, f.Kind, f.Ref, values, body)
		all = slices.DeleteFunc(all, func(p pair) bool { return p.k.N == k.N && p.k.S == k.S })
		all = append(all, pair{k, v})
	}
	slices.SortFunc(all, func(x, y pair) int { return cmp.Or(cmp.Compare(x.k.N, y.k.N), strings.Compare(x.k.S, y.k.S)) })
	out := api.Slot{No: f.No}
	for _, p := range all {
		out.K, out.V = append(out.K, p.k), append(out.V, p.v)
	}
	return out
}

// wantVal is the value that records come to: the last one counts; of messages all, put together.
func wantVal(s api.Schema, kind, ref int, recs []api.Rec, b []byte) api.Val {
	if kind == api.Sub {
		var body []byte
		for _, r := range recs {
			body = append(body, b[r.From:r.Upto]...)
		}
		return api.Val{M: []api.Msg{wantMsg(s, ref, body)}}
	}
	if len(recs) == 0 {
		return api.Val{}
	}
	r := recs[len(recs)-1]
	if kind >= api.Text {
		return txt(string(b[r.From:r.Upto]))
	}
	return num(wantNum(kind, r.Num))
}

// wantDecode is what P11.2 asks of Decode, of a schema that may be.
func wantDecode(s api.Schema, m int, b []byte) (api.Msg, api.Errno) {
	if m < 0 || m >= len(s.M) {
		return api.Msg{}, api.ErrArg
	}
	if err := wantError(s, m, b, 1); err != api.OK {
		return api.Msg{}, err
	}
	return wantMsg(s, m, b), api.OK
}

// hold holds Decode against what P11.2 asks, and what follows (P11.3), of a schema that may be; R3 and R4, too.
func hold(t *testing.T, s api.Schema, m int, b []byte) {
	t.Helper()
	was := slices.Clone(b)
	want, wantErr := wantDecode(s, m, b)
	x, err := decode.Decode(s, m, b)
	if !bytes.Equal(b, was) {
		t.Fatalf("message %d: %.300x is changed to %.300x", m, was, b)
	}
	if err != wantErr || text(x) != text(want) {
		t.Fatalf("message %d: %.300x is %.300s, %d, not %.300s, %d", m, b, text(x), err, text(want), wantErr)
	}
	if err != api.OK {
		return
	}
	if !typed.May(s, m, x) || !typed.Is(s, m, x) {
		t.Fatalf("message %d: %.300x is %.300s, that is not normal", m, b, text(x))
	}
	holdOwn(t, x, b)
}

// holdNumbers holds Numbers against what P11.1 asks; R3 and R4, too.
func holdNumbers(t *testing.T, kind int, b []byte, at, upto int) {
	t.Helper()
	was := slices.Clone(b)
	want, wantErr := wantNumbers(kind, b, at, upto)
	l, err := decode.Numbers(kind, b, at, upto)
	if err != wantErr || !slices.Equal(l, want) {
		t.Fatalf("kind %d: %.200x from %d to %d is %v, %d, not %v, %d", kind, b, at, upto, l, err, want, wantErr)
	}
	if !bytes.Equal(b, was) {
		t.Fatalf("%x is changed to %x", was, b)
	}
}

// memory is where something lies, all its places counted.
type memory struct{ from, upto uintptr }

func memoryOf[T any](l []T) []memory {
	var one T
	if cap(l) == 0 {
		return nil
	}
	from := uintptr(unsafe.Pointer(unsafe.SliceData(l)))
	return []memory{{from, from + uintptr(cap(l))*unsafe.Sizeof(one)}}
}

// lists are where all lists of a message lie, texts where its texts do.
func lists(m api.Msg) []memory {
	out := memoryOf(m.F)
	for _, v := range within(m, func(s api.Slot) { out = append(append(out, memoryOf(s.K)...), memoryOf(s.V)...) }) {
		out = append(out, memoryOf(v.M)...)
		for _, x := range v.M {
			out = append(out, lists(x)...)
		}
	}
	return out
}

func texts(m api.Msg) []memory {
	var out []memory
	for _, v := range within(m, func(api.Slot) {}) {
		if v.S != "" {
			from := uintptr(unsafe.Pointer(unsafe.StringData(v.S)))
			out = append(out, memory{from, from + uintptr(len(v.S))})
		}
		for _, x := range v.M {
			out = append(out, texts(x)...)
		}
	}
	return out
}

// within are all values of a message's slots.
func within(m api.Msg, each func(s api.Slot)) []api.Val {
	var out []api.Val
	for _, s := range m.F {
		each(s)
		out = append(append(out, s.K...), s.V...)
	}
	return out
}

// holdOwn holds that no two lists of a message share anything, and that neither these nor its texts lie in the bytes (R3).
func holdOwn(t *testing.T, x api.Msg, b []byte) {
	t.Helper()
	all := slices.Concat(lists(x), memoryOf(b))
	slices.SortFunc(all, func(a, b memory) int { return cmp.Compare(a.from, b.from) })
	for i := 1; i < len(all); i++ {
		if all[i].from < all[i-1].upto {
			t.Fatalf("%.300s: lists share memory", text(x))
		}
	}
	for _, in := range memoryOf(b) {
		for _, s := range texts(x) {
			if s.from < in.upto && in.from < s.upto {
				t.Fatalf("%.300s: a text shares memory with the bytes", text(x))
			}
		}
	}
}
