package merge_test

import (
	"cmp"
	"fmt"
	"math"
	"slices"
	"strconv"
	"strings"
	"testing"
	"unicode/utf8"
	"unsafe"

	"truffle/api"
	"truffle/decode"
	"truffle/encode"
	"truffle/merge"
	"truffle/table"
	"truffle/typed"
)

// The messages of the schema that most tests ask.
const (
	forms = iota // each kind: alone, repeated, and in a oneof
	maps         // each key's kind, and each kind of values
	few          // the first number, and the last one
	none         // no fields
	msgs
)

// Where the fields of message forms begin, by their kinds.
const (
	alone    = 1
	repeated = 11
	inOne    = 21
)

// Where the fields of message maps begin, by the place of the key's kind, and by the kinds of their values.
const (
	byKey     = 1
	textToAny = 11
	numToAny  = 21
)

// keyKinds are the kinds that keys may have.
var keyKinds = []int{api.Int, api.Sint, api.Uint, api.Flag, api.Fix4, api.Fix8, api.Text}

// refOf is what a field of a kind refers to.
func refOf(kind, sub int) int {
	switch kind {
	case api.Sub:
		return sub
	case api.Enum:
		return 1
	}
	return 0
}

// oneOf is the oneof that the field of a kind is in: there are the first one, and the last one that may be.
func oneOf(kind int) int {
	if kind < 5 {
		return 1
	}
	return 30
}

// whole is a schema of all forms of fields, in memory of its own.
func whole() api.Schema {
	s := api.Schema{
		M: []api.MsgDef{forms: {Name: "Forms"}, maps: {Name: "Maps"}, few: {Name: "Few"}, none: {Name: "None"}},
		E: []api.EnumDef{{Name: "E", V: []string{"Z"}, N: []int64{0}}, {Name: "F", V: []string{"Z", "Y"}, N: []int64{0, 7}}},
	}
	add := func(m int, f api.FieldDef) {
		f.Name = fmt.Sprint("f", f.No)
		s.M[m].F = append(s.M[m].F, f)
	}
	for kind := range api.Kinds {
		add(forms, api.FieldDef{No: alone + kind, Kind: kind, Ref: refOf(kind, forms), Key: api.NoKey})
	}
	for kind := range api.Kinds {
		add(forms, api.FieldDef{No: repeated + kind, Kind: kind, Ref: refOf(kind, maps), Rep: true, Key: api.NoKey})
	}
	for kind := range api.Kinds {
		add(forms, api.FieldDef{No: inOne + kind, Kind: kind, Ref: refOf(kind, forms), Key: api.NoKey, One: oneOf(kind)})
	}
	for i, key := range keyKinds {
		add(maps, api.FieldDef{No: byKey + i, Kind: api.Sub, Ref: forms, Key: key})
	}
	for kind := range api.Kinds {
		add(maps, api.FieldDef{No: textToAny + kind, Kind: kind, Ref: refOf(kind, maps), Key: api.Text})
	}
	for kind := range api.Kinds {
		add(maps, api.FieldDef{No: numToAny + kind, Kind: kind, Ref: refOf(kind, few), Key: api.Sint})
	}
	add(few, api.FieldDef{No: 1, Kind: api.Int, Key: api.NoKey})
	add(few, api.FieldDef{No: api.MaxNo, Kind: api.Text, Key: api.NoKey})
	return s
}

// referTo is that schema, with fields that are messages all of message few.
func referTo() api.Schema {
	s := whole()
	for m := range s.M {
		for i := range s.M[m].F {
			if f := &s.M[m].F[i]; f.Kind == api.Sub {
				f.Ref = few
			}
		}
	}
	return s
}

// small is a schema with a field of each form, of message A.
const small = `
message A {
  int64 a = 1; repeated sint64 r = 2; string t = 3; A s = 4; map<string, A> m = 5;
  oneof o { bool p = 6; A q = 7; string w = 8; B u = 21; }
  repeated string l = 9; map<int64, E> k = 10; repeated A z = 11; fixed32 f = 12; sfixed64 g = 13;
  repeated fixed32 h = 14; bytes y = 15; E e = 16; map<bool, string> n = 17; oneof o2 { int64 b = 18; uint32 c = 19; } B d = 20;
}
message B { bytes x = 1; A a = 2; }
enum E { Z = 0; Y = 5; }`

// plain is the same, but that no message is in a oneof.
const plain = `
message A {
  int64 a = 1; repeated sint64 r = 2; string t = 3; A s = 4; map<string, A> m = 5;
  oneof o { bool p = 6; string w = 8; bytes v = 22; } A q = 7; B u = 21;
  repeated string l = 9; map<int64, E> k = 10; repeated A z = 11; fixed32 f = 12; sfixed64 g = 13;
  repeated fixed32 h = 14; bytes y = 15; E e = 16; map<bool, string> n = 17; oneof o2 { int64 b = 18; uint32 c = 19; } B d = 20;
}
message B { bytes x = 1; A a = 2; }
enum E { Z = 0; Y = 5; }`

// read is the schema of a text.
func read(t *testing.T, s string) api.Schema {
	t.Helper()
	schema, at, err := table.Read(s)
	if err != api.OK {
		t.Fatalf("%d at %d of %s", err, at, s)
	}
	return schema
}

// wrongSchemas are some that may not be, each for one reason.
func wrongSchemas() []api.Schema {
	wrong := []api.Schema{{}, {M: []api.MsgDef{}}, {E: whole().E}, {M: make([]api.MsgDef, 2)}}
	for _, do := range []func(s *api.Schema){
		func(s *api.Schema) { s.M[none].Name = "Few" },
		func(s *api.Schema) { s.M[none].Name = "int64" },
		func(s *api.Schema) { s.E[1].N[0] = 1 },
		func(s *api.Schema) { s.E = s.E[:1] },
		func(s *api.Schema) { s.M[few].F[1].No = api.MaxNo + 1 },
		func(s *api.Schema) { s.M[few].F[1].No = 19500 },
		func(s *api.Schema) { s.M[few].F[1].Kind = api.Kinds },
		func(s *api.Schema) { s.M[forms].F[api.Sub].Ref = msgs },
		func(s *api.Schema) { s.M[few].F[1].Key = api.Raw },
		func(s *api.Schema) { s.M[few].F[1].One, s.M[few].F[1].Rep = 1, true },
		func(s *api.Schema) { slices.Reverse(s.M[few].F) },
		func(s *api.Schema) { s.M = append(s.M, make([]api.MsgDef, 17)...) },
	} {
		s := whole()
		do(&s)
		wrong = append(wrong, s)
	}
	return wrong
}

// fieldOf is a message's field, slotOf its slot of a number.
func fieldOf(s api.Schema, m, no int) (api.FieldDef, bool) {
	for _, f := range s.M[m].F {
		if f.No == no {
			return f, true
		}
	}
	return api.FieldDef{}, false
}

func slotOf(x api.Msg, no int) (api.Slot, bool) {
	for _, slot := range x.F {
		if slot.No == no {
			return slot, true
		}
	}
	return api.Slot{}, false
}

// num is a value that is a number, txt one that is a text, sub one that has messages, in one that has one of these slots.
func num(n int64) api.Val      { return api.Val{N: n} }
func txt(s string) api.Val     { return api.Val{S: s} }
func sub(l ...api.Msg) api.Val { return api.Val{M: l} }
func in(l ...api.Slot) api.Val { return sub(msg(l...)) }

// vals is a list of values, nums one of numbers, txts one of texts.
func vals(l ...api.Val) []api.Val { return l }

func nums(l ...int64) []api.Val {
	var out []api.Val
	for _, n := range l {
		out = append(out, num(n))
	}
	return out
}

func txts(l ...string) []api.Val {
	var out []api.Val
	for _, s := range l {
		out = append(out, txt(s))
	}
	return out
}

// msg is a message of these slots, slot one of values in V, pairs one of values in K and V, one by one.
func msg(l ...api.Slot) api.Msg             { return api.Msg{F: l} }
func slot(no int, l ...api.Val) api.Slot    { return api.Slot{No: no, V: l} }
func pairs(no int, k, v []api.Val) api.Slot { return api.Slot{No: no, K: k, V: v} }

// text is all that is in a message: of two that differ in anything it is another one.
func text(m api.Msg) string {
	return textOf(m)
}

// textOf is all that is in several messages.
func textOf(l ...api.Msg) string {
	var b strings.Builder
	for _, m := range l {
		write(&b, m)
	}
	return b.String()
}

func write(b *strings.Builder, m api.Msg) {
	b.WriteString("{")
	for _, s := range m.F {
		b.WriteString("<" + strconv.Itoa(s.No) + " K")
		writeVals(b, s.K)
		b.WriteString(" V")
		writeVals(b, s.V)
		b.WriteString(">")
	}
	b.WriteString("}")
}

func writeVals(b *strings.Builder, l []api.Val) {
	for _, v := range l {
		b.WriteString("(" + strconv.FormatInt(v.N, 10) + " " + strconv.Quote(v.S))
		for _, m := range v.M {
			write(b, m)
		}
		b.WriteString(")")
	}
}

// limits are the least and the greatest number of a kind that counts.
func limits(kind int) (least, greatest int64) {
	switch kind {
	case api.Uint, api.Fix4:
		return 0, 1<<32 - 1
	case api.Flag:
		return 0, 1
	case api.Enum:
		return -1 << 31, 1<<31 - 1
	}
	return math.MinInt64, math.MaxInt64
}

// wantOfKind is what the words ask of a value of a kind.
func wantOfKind(s api.Schema, kind, ref int, v api.Val) bool {
	if kind < 0 || kind > api.Sub {
		return false
	}
	if kind == api.Sub {
		return v.N == 0 && v.S == "" && len(v.M) == 1 && wantOf(s, ref, v.M[0])
	}
	if len(v.M) > 0 {
		return false
	}
	if kind == api.Text || kind == api.Raw {
		return v.N == 0 && (kind == api.Raw || utf8.ValidString(v.S))
	}
	least, greatest := limits(kind)
	return v.S == "" && least <= v.N && v.N <= greatest
}

// wantOf is what the words ask of a message of message m.
func wantOf(s api.Schema, m int, x api.Msg) bool {
	if m < 0 || m >= len(s.M) {
		return false
	}
	numbers, ones := map[int]int{}, map[int]int{}
	for _, slot := range x.F {
		f, ok := fieldOf(s, m, slot.No)
		numbers[slot.No]++
		ones[f.One]++
		if !ok || numbers[slot.No] > 1 || f.One > 0 && ones[f.One] > 1 {
			return false
		}
		for _, v := range slot.V {
			if !wantOfKind(s, f.Kind, f.Ref, v) {
				return false
			}
		}
		for _, k := range slot.K {
			if f.Key == api.NoKey || !wantOfKind(s, f.Key, 0, k) {
				return false
			}
		}
		if f.Key != api.NoKey && len(slot.K) != len(slot.V) || f.Key == api.NoKey && !f.Rep && len(slot.V) != 1 {
			return false
		}
	}
	return true
}

// wantDeep is how deep messages are, told level by level.
func wantDeep(level ...api.Msg) int {
	deep := 0
	for len(level) > 0 {
		var within []api.Msg
		for _, m := range level {
			for _, s := range m.F {
				for _, v := range slices.Concat(s.K, s.V) {
					within = append(within, v.M...)
				}
			}
		}
		level = within
		deep++
	}
	return deep
}

// wantMay is what P10.1 asks of May, of a schema that may be.
func wantMay(s api.Schema, m int, x api.Msg) bool {
	return wantDeep(x) <= 64 && wantOf(s, m, x)
}

// wantNormal is what P10.2 asks of Normal, of a message that may be: a schema's fields stand by rising numbers.
func wantNormal(s api.Schema, m int, x api.Msg) api.Msg {
	var out api.Msg
	for _, f := range s.M[m].F {
		slot, ok := slotOf(x, f.No)
		if !ok || len(slot.V) == 0 {
			continue
		}
		single := !f.Rep && f.Key == api.NoKey && f.One == 0 && f.Kind != api.Sub
		if single && slot.V[0].N == 0 && slot.V[0].S == "" {
			continue
		}
		norm := api.Slot{No: f.No, K: slices.Clone(slot.K)}
		for _, v := range slot.V {
			within := api.Val{N: v.N, S: v.S}
			for _, y := range v.M {
				within.M = append(within.M, wantNormal(s, f.Ref, y))
			}
			norm.V = append(norm.V, within)
		}
		if f.Key != api.NoKey {
			norm = wantEntries(norm)
		}
		out.F = append(out.F, norm)
	}
	return out
}

// wantEntries are the last entry of each key of a slot, by rising keys.
func wantEntries(slot api.Slot) api.Slot {
	var stay []int
	for i, k := range slot.K {
		if !hasKey(slot.K[i+1:], k) {
			stay = append(stay, i)
		}
	}
	slices.SortFunc(stay, func(i, j int) int {
		a, b := slot.K[i], slot.K[j]
		return cmp.Or(cmp.Compare(a.N, b.N), strings.Compare(a.S, b.S))
	})
	out := api.Slot{No: slot.No}
	for _, i := range stay {
		out.K, out.V = append(out.K, slot.K[i]), append(out.V, slot.V[i])
	}
	return out
}

func hasKey(l []api.Val, k api.Val) bool {
	return slices.ContainsFunc(l, func(other api.Val) bool { return other.N == k.N && other.S == k.S })
}

// wantMerged is what the words ask of b, merged into a, both being normal: field by field of the schema, which slots of both tell of it.
func wantMerged(s api.Schema, m int, a, b api.Msg) api.Msg {
	var out api.Msg
	for _, f := range s.M[m].F {
		old, was := slotOf(a, f.No)
		own, is := slotOf(b, f.No)
		switch {
		case was && is:
			out.F = append(out.F, wantBoth(s, f, old, own))
		case is:
			out.F = append(out.F, own)
		case was && !wantGone(s, m, f, b):
			out.F = append(out.F, old)
		}
	}
	return out
}

// wantGone tells whether a message has another field of a field's oneof.
func wantGone(s api.Schema, m int, f api.FieldDef, b api.Msg) bool {
	return f.One != 0 && slices.ContainsFunc(s.M[m].F, func(other api.FieldDef) bool {
		_, is := slotOf(b, other.No)
		return is && other.One == f.One && other.No != f.No
	})
}

// wantBoth is the slot of a field that both have.
func wantBoth(s api.Schema, f api.FieldDef, a, b api.Slot) api.Slot {
	both := api.Slot{No: f.No, K: slices.Concat(a.K, b.K), V: slices.Concat(a.V, b.V)}
	switch {
	case f.Rep:
		return both
	case f.Key != api.NoKey:
		return wantEntries(both)
	case f.Kind == api.Sub:
		return slot(f.No, sub(wantMerged(s, f.Ref, a.V[0].M[0], b.V[0].M[0])))
	}
	return b
}

// wantAll is what P13.1 asks of All, and of Merge of two, of a schema that may be.
func wantAll(s api.Schema, m int, l ...api.Msg) (api.Msg, api.Errno) {
	if m < 0 || m >= len(s.M) {
		return api.Msg{}, api.ErrArg
	}
	var out api.Msg
	for _, x := range l {
		if !wantMay(s, m, x) {
			return api.Msg{}, api.ErrArg
		}
		out = wantMerged(s, m, out, wantNormal(s, m, x))
	}
	return out, api.OK
}

// hold holds Merge against what P13.1 asks, and what follows (P13.2), of a schema that may be; R3 and R4, too: All of both tells the same.
func hold(t *testing.T, s api.Schema, m int, a, b api.Msg) api.Msg {
	t.Helper()
	was := textOf(a, b)
	x, err := merge.Merge(s, m, a, b)
	holdTold(t, s, m, x, err, was, a, b)
	if all, other := merge.All(s, m, a, b); err != other || text(all) != text(x) {
		t.Fatalf("%d, %.600s is %.600s, %d, and all of it %.600s, %d", m, was, text(x), err, text(all), other)
	}
	return x
}

// holdAll holds All against what P13.1 asks, of a schema that may be; R3 and R4, too.
func holdAll(t *testing.T, s api.Schema, m int, l ...api.Msg) api.Msg {
	t.Helper()
	was := textOf(l...)
	x, err := merge.All(s, m, l...)
	holdTold(t, s, m, x, err, was, l...)
	return x
}

// holdTold holds what is told of messages, that were as a text tells, against what P13.1 asks.
func holdTold(t *testing.T, s api.Schema, m int, x api.Msg, err api.Errno, was string, l ...api.Msg) {
	t.Helper()
	if now := textOf(l...); now != was {
		t.Fatalf("%d, %.600s is changed to %.600s", m, was, now)
	}
	want, wantErr := wantAll(s, m, l...)
	if err != wantErr || text(x) != text(want) {
		t.Fatalf("%d, %.600s is %.600s, %d, not %.600s, %d", m, was, text(x), err, text(want), wantErr)
	}
	handed := memoryOf(l)
	for _, y := range l {
		handed = append(handed, lists(y)...)
	}
	holdOwn(t, lists(x), handed)
	if err == api.OK {
		holdNormal(t, s, m, x)
		holdBytes(t, s, m, x, l...)
	}
}

// holdNormal holds that what is told is normal, so that it may be merged again.
func holdNormal(t *testing.T, s api.Schema, m int, x api.Msg) {
	t.Helper()
	if !typed.Is(s, m, x) {
		t.Fatalf("%.600s is not normal", text(x))
	}
}

// holdBytes holds that the bytes of all, one behind the other, decode to what is told (P13.2).
func holdBytes(t *testing.T, s api.Schema, m int, x api.Msg, l ...api.Msg) {
	t.Helper()
	var b []byte
	for _, y := range l {
		own, err := encode.Encode(s, m, y)
		if err != api.OK {
			t.Fatalf("%.600s has no bytes: %d", text(y), err)
		}
		b = append(b, own...)
	}
	back, err := decode.Decode(s, m, b)
	if err != api.OK || text(back) != text(x) {
		t.Fatalf("%d, %.300x is decoded as %.600s, %d, not %.600s", m, b, text(back), err, text(x))
	}
}

// memory is where a list lies, all its places counted.
type memory struct{ from, upto uintptr }

func memoryOf[T any](l []T) []memory {
	var one T
	if cap(l) == 0 {
		return nil
	}
	from := uintptr(unsafe.Pointer(unsafe.SliceData(l)))
	return []memory{{from, from + uintptr(cap(l))*unsafe.Sizeof(one)}}
}

// lists are where all lists of a message lie.
func lists(m api.Msg) []memory {
	out := memoryOf(m.F)
	for _, s := range m.F {
		out = append(out, memoryOf(s.K)...)
		out = append(out, memoryOf(s.V)...)
		for _, v := range slices.Concat(s.K, s.V) {
			out = append(out, memoryOf(v.M)...)
			for _, x := range v.M {
				out = append(out, lists(x)...)
			}
		}
	}
	return out
}

// holdOwn holds that an answer's lists share nothing with one another, nor with what was handed in (R3).
func holdOwn(t *testing.T, answer, handed []memory) {
	t.Helper()
	isAnswer := func(i int) bool { return i < len(answer) }
	all := slices.Concat(answer, handed)
	order := make([]int, len(all))
	for i := range order {
		order[i] = i
	}
	slices.SortFunc(order, func(a, b int) int { return cmp.Compare(all[a].from, all[b].from) })
	var endOfAnswer, endOfHanded uintptr
	for _, i := range order {
		if all[i].from < endOfAnswer || isAnswer(i) && all[i].from < endOfHanded {
			t.Fatalf("the answer shares memory")
		}
		if isAnswer(i) {
			endOfAnswer = max(endOfAnswer, all[i].upto)
			continue
		}
		endOfHanded = max(endOfHanded, all[i].upto)
	}
}

// nest is a message so deep, each in the one around it by what around tells.
func nest(deep int, last api.Msg, around func(x api.Msg) api.Msg) api.Msg {
	for range deep - 1 {
		last = around(last)
	}
	return last
}

// arounds are all ways in which a message of schema small may stand in another one, alone, ahead of others and behind them.
func arounds() []func(x api.Msg) api.Msg {
	shallow := in()
	return []func(x api.Msg) api.Msg{
		func(x api.Msg) api.Msg { return msg(slot(4, sub(x))) },
		func(x api.Msg) api.Msg { return msg(slot(7, sub(x))) },
		func(x api.Msg) api.Msg { return msg(slot(11, sub(x))) },
		func(x api.Msg) api.Msg { return msg(slot(11, shallow, sub(x), shallow)) },
		func(x api.Msg) api.Msg { return msg(pairs(5, txts("k"), vals(sub(x)))) },
		func(x api.Msg) api.Msg { return msg(pairs(5, txts("b", "a"), vals(shallow, sub(x)))) },
		func(x api.Msg) api.Msg { return msg(pairs(5, txts("k", "k"), vals(sub(x), shallow))) },
		func(x api.Msg) api.Msg { return msg(slot(11, shallow), slot(4, sub(x)), slot(7, shallow)) },
		func(x api.Msg) api.Msg { return msg(slot(16, num(1)), slot(4, sub(x)), slot(1, num(0)), slot(2)) },
	}
}
