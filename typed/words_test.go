package typed_test

import (
	"cmp"
	"fmt"
	"math"
	"slices"
	"strings"
	"testing"
	"unicode/utf8"
	"unsafe"

	"truffle/api"
	"truffle/typed"
)

// The messages of the schema that most tests ask.
const (
	forms = iota // each kind: alone, repeated, and in a oneof
	maps         // each key's kind, and each kind of values
	few          // the first number, and the last one
	none         // no fields
	msgs
)

// Where the fields of message forms begin, by their kinds.
const (
	alone    = 1
	repeated = 11
	inOne    = 21
)

// Where the fields of message maps begin, by the place of the key's kind, and by the kinds of their values.
const (
	byKey     = 1
	textToAny = 11
	numToAny  = 21
)

// keyKinds are the chapter's.
var keyKinds = []int{api.Int, api.Sint, api.Uint, api.Flag, api.Fix4, api.Fix8, api.Text}

// refOf is what a field of a kind refers to: the messages may hold others, maps, nothing.
func refOf(kind, sub int) int {
	switch kind {
	case api.Sub:
		return sub
	case api.Enum:
		return 1
	}
	return 0
}

// whole is a schema of all forms of fields, in memory of its own.
func whole() api.Schema {
	s := api.Schema{
		M: []api.MsgDef{forms: {Name: "Forms"}, maps: {Name: "Maps"}, few: {Name: "Few"}, none: {Name: "None"}},
		E: []api.EnumDef{{Name: "E", V: []string{"Z"}, N: []int64{0}}, {Name: "F", V: []string{"Z", "Y"}, N: []int64{0, 7}}},
	}
	add := func(m int, f api.FieldDef) {
		f.Name = fmt.Sprint("f", f.No)
		s.M[m].F = append(s.M[m].F, f)
	}
	for kind := range api.Kinds {
		add(forms, api.FieldDef{No: alone + kind, Kind: kind, Ref: refOf(kind, forms), Key: api.NoKey})
	}
	for kind := range api.Kinds {
		add(forms, api.FieldDef{No: repeated + kind, Kind: kind, Ref: refOf(kind, maps), Rep: true, Key: api.NoKey})
	}
	for kind := range api.Kinds {
		add(forms, api.FieldDef{No: inOne + kind, Kind: kind, Ref: refOf(kind, few), Key: api.NoKey, One: oneOf(kind)})
	}
	for i, key := range keyKinds {
		add(maps, api.FieldDef{No: byKey + i, Kind: api.Sub, Ref: forms, Key: key})
	}
	for kind := range api.Kinds {
		add(maps, api.FieldDef{No: textToAny + kind, Kind: kind, Ref: refOf(kind, maps), Key: api.Text})
	}
	for kind := range api.Kinds {
		add(maps, api.FieldDef{No: numToAny + kind, Kind: kind, Ref: refOf(kind, few), Key: api.Sint})
	}
	add(few, api.FieldDef{No: 1, Kind: api.Int, Key: api.NoKey})
	add(few, api.FieldDef{No: api.MaxNo, Kind: api.Text, Key: api.NoKey})
	return s
}

// oneOf is the oneof that the field of a kind is in: there are the first one, and the last one that may be.
func oneOf(kind int) int {
	if kind < 5 {
		return 1
	}
	return 30
}

// fieldOf is a message's field.
func fieldOf(s api.Schema, m, no int) (api.FieldDef, bool) {
	for _, f := range s.M[m].F {
		if f.No == no {
			return f, true
		}
	}
	return api.FieldDef{}, false
}

// num is a value that is a number, str one that is a text, sub one that has messages.
func num(n int64) api.Val      { return api.Val{N: n} }
func str(s string) api.Val     { return api.Val{S: s} }
func sub(l ...api.Msg) api.Val { return api.Val{M: l} }

// vals is a list of values, nums one of numbers, strs one of texts.
func vals(l ...api.Val) []api.Val { return l }

func nums(l ...int64) []api.Val {
	var out []api.Val
	for _, n := range l {
		out = append(out, num(n))
	}
	return out
}

func strs(l ...string) []api.Val {
	var out []api.Val
	for _, s := range l {
		out = append(out, str(s))
	}
	return out
}

// msg is a message of these slots, slot one of values in V, pairs one of values in K and V, one by one.
func msg(l ...api.Slot) api.Msg             { return api.Msg{F: l} }
func slot(no int, l ...api.Val) api.Slot    { return api.Slot{No: no, V: l} }
func pairs(no int, k, v []api.Val) api.Slot { return api.Slot{No: no, K: k, V: v} }

// text is all that is in a message: of two that differ in anything it is another one.
func text(m api.Msg) string {
	var b strings.Builder
	b.WriteString("{")
	for _, s := range m.F {
		fmt.Fprintf(&b, "<%d K%s V%s>", s.No, valsText(s.K), valsText(s.V))
	}
	b.WriteString("}")
	return b.String()
}

func valsText(l []api.Val) string {
	var b strings.Builder
	for _, v := range l {
		fmt.Fprintf(&b, "(%d %q", v.N, v.S)
		for _, m := range v.M {
			b.WriteString(text(m))
		}
		b.WriteString(")")
	}
	return "[" + b.String() + "]"
}

// limits are the least and the greatest number of a kind that counts.
func limits(kind int) (least, greatest int64) {
	switch kind {
	case api.Uint, api.Fix4:
		return 0, 1<<32 - 1
	case api.Flag:
		return 0, 1
	case api.Enum:
		return -1 << 31, 1<<31 - 1
	}
	return math.MinInt64, math.MaxInt64
}

// wantOfKind is what the words ask of a value of a kind.
func wantOfKind(s api.Schema, kind, ref int, v api.Val) bool {
	if kind < 0 || kind > api.Sub {
		return false
	}
	if kind == api.Sub {
		return v.N == 0 && v.S == "" && len(v.M) == 1 && wantOf(s, ref, v.M[0])
	}
	if len(v.M) > 0 {
		return false
	}
	if kind == api.Text || kind == api.Raw {
		return v.N == 0 && (kind == api.Raw || utf8.ValidString(v.S))
	}
	least, greatest := limits(kind)
	return v.S == "" && least <= v.N && v.N <= greatest
}

// wantOf is what the words ask of a message of message m.
func wantOf(s api.Schema, m int, x api.Msg) bool {
	if m < 0 || m >= len(s.M) {
		return false
	}
	numbers, ones := map[int]int{}, map[int]int{}
	for _, slot := range x.F {
		f, ok := fieldOf(s, m, slot.No)
		numbers[slot.No]++
		ones[f.One]++
		if !ok || numbers[slot.No] > 1 || f.One > 0 && ones[f.One] > 1 {
			return false
		}
		for _, v := range slot.V {
			if !wantOfKind(s, f.Kind, f.Ref, v) {
				return false
			}
		}
		for _, k := range slot.K {
			if f.Key == api.NoKey || !wantOfKind(s, f.Key, 0, k) {
				return false
			}
		}
		if f.Key != api.NoKey && len(slot.K) != len(slot.V) || f.Key == api.NoKey && !f.Rep && len(slot.V) != 1 {
			return false
		}
	}
	return true
}

// wantDeep is how deep messages are, told level by level.
func wantDeep(level ...api.Msg) int {
	deep := 0
	for len(level) > 0 {
		var within []api.Msg
		for _, m := range level {
			for _, s := range m.F {
				for _, v := range slices.Concat(s.K, s.V) {
					within = append(within, v.M...)
				}
			}
		}
		level = within
		deep++
	}
	return deep
}

// wantMay is what P10.1 asks of May, wantVal what it asks of Val, of a schema that may be.
func wantMay(s api.Schema, m int, x api.Msg) bool {
	return wantDeep(x) <= 64 && wantOf(s, m, x)
}

func wantVal(s api.Schema, kind, ref int, v api.Val) bool {
	return wantDeep(v.M...) <= 63 && wantOfKind(s, kind, ref, v)
}

// wantNormal is what P10.2 asks of Normal, of a message that may be: a schema's fields stand by rising numbers.
func wantNormal(s api.Schema, m int, x api.Msg) api.Msg {
	var out api.Msg
	for _, f := range s.M[m].F {
		at := slices.IndexFunc(x.F, func(slot api.Slot) bool { return slot.No == f.No })
		if at < 0 || len(x.F[at].V) == 0 {
			continue
		}
		slot := x.F[at]
		single := !f.Rep && f.Key == api.NoKey && f.One == 0 && f.Kind != api.Sub
		if single && slot.V[0].N == 0 && slot.V[0].S == "" {
			continue
		}
		norm := api.Slot{No: f.No}
		for _, i := range wantEntries(f, slot) {
			v := api.Val{N: slot.V[i].N, S: slot.V[i].S}
			for _, y := range slot.V[i].M {
				v.M = append(v.M, wantNormal(s, f.Ref, y))
			}
			norm.V = append(norm.V, v)
			if f.Key != api.NoKey {
				norm.K = append(norm.K, slot.K[i])
			}
		}
		out.F = append(out.F, norm)
	}
	return out
}

// wantEntries are the places of the values that stay, in the order in which they do.
func wantEntries(f api.FieldDef, slot api.Slot) []int {
	var out []int
	for i := range slot.V {
		again := func(k api.Val) bool { return k.N == slot.K[i].N && k.S == slot.K[i].S }
		if f.Key == api.NoKey || !slices.ContainsFunc(slot.K[i+1:], again) {
			out = append(out, i)
		}
	}
	if f.Key == api.NoKey {
		return out
	}
	slices.SortFunc(out, func(a, b int) int {
		x, y := slot.K[a], slot.K[b]
		switch {
		case x.N < y.N:
			return -1
		case x.N > y.N:
			return 1
		}
		return strings.Compare(x.S, y.S)
	})
	return out
}

// hold holds May, Normal and Is against what P10.1 and P10.2 ask, and what follows (P10.3), of a schema that may be.
func hold(t *testing.T, s api.Schema, m int, x api.Msg) {
	t.Helper()
	was := text(x)
	may := wantMay(s, m, x)
	if got := typed.May(s, m, x); got != may {
		t.Fatalf("May of %d, %.300s, is %t", m, was, got)
	}
	n, ok := typed.Normal(s, m, x)
	if ok != may {
		t.Fatalf("Normal of %d, %.300s, tells %t", m, was, ok)
	}
	if !ok && len(n.F) > 0 {
		t.Fatalf("Normal of %d, %.300s, that may not be, is %.300s", m, was, text(n))
	}
	is := typed.Is(s, m, x)
	if text(x) != was {
		t.Fatalf("%d, %.300s is changed to %.300s", m, was, text(x))
	}
	if !may {
		if is {
			t.Fatalf("Is of %d, %.300s, that may not be, is true", m, was)
		}
		return
	}
	want := text(wantNormal(s, m, x))
	if text(n) != want {
		t.Fatalf("Normal of %d, %.300s, is %.300s, not %.300s", m, was, text(n), want)
	}
	if is != (was == want) {
		t.Fatalf("Is of %d, %.300s, is %t", m, was, is)
	}
	holdOwn(t, lists(n), lists(x))
	if !typed.May(s, m, n) || !typed.Is(s, m, n) {
		t.Fatalf("%.300s, that is normal, may not be, or is not", want)
	}
	if again, ok := typed.Normal(s, m, n); !ok || text(again) != want {
		t.Fatalf("Normal of %.300s, that is normal, is %.300s, %t", want, text(again), ok)
	}
}

// memory is where a list lies, all its places counted.
type memory struct{ from, upto uintptr }

func memoryOf[T any](l []T) []memory {
	var one T
	if cap(l) == 0 {
		return nil
	}
	from := uintptr(unsafe.Pointer(unsafe.SliceData(l)))
	return []memory{{from, from + uintptr(cap(l))*unsafe.Sizeof(one)}}
}

// lists are where all lists of a message lie.
func lists(m api.Msg) []memory {
	out := memoryOf(m.F)
	for _, s := range m.F {
		out = append(out, memoryOf(s.K)...)
		out = append(out, memoryOf(s.V)...)
		for _, v := range slices.Concat(s.K, s.V) {
			out = append(out, memoryOf(v.M)...)
			for _, x := range v.M {
				out = append(out, lists(x)...)
			}
		}
	}
	return out
}

// holdOwn holds that an answer's lists share nothing with one another, nor with what was handed in (R3).
func holdOwn(t *testing.T, answer, in []memory) {
	t.Helper()
	isAnswer := func(i int) bool { return i < len(answer) }
	all := slices.Concat(answer, in)
	order := make([]int, len(all))
	for i := range order {
		order[i] = i
	}
	slices.SortFunc(order, func(a, b int) int { return cmp.Compare(all[a].from, all[b].from) })
	var endOfAnswer, endOfIn uintptr
	for _, i := range order {
		if all[i].from < endOfAnswer || isAnswer(i) && all[i].from < endOfIn {
			t.Fatalf("the answer shares memory")
		}
		if isAnswer(i) {
			endOfAnswer = max(endOfAnswer, all[i].upto)
			continue
		}
		endOfIn = max(endOfIn, all[i].upto)
	}
}

// nest is a message so deep, each in the one around it by what around tells.
func nest(deep int, last api.Msg, around func(x api.Msg) api.Msg) api.Msg {
	for range deep - 1 {
		last = around(last)
	}
	return last
}
