package typed_test

import (
	"fmt"
	"math"
	"math/rand/v2"
	"slices"
	"strings"
	"testing"

	"truffle/api"
	"truffle/table"
	"truffle/typed"
)

// holdVal holds Val against what P10.1 asks, of a schema that may be.
func holdVal(t *testing.T, s api.Schema, kind, ref int, v api.Val) {
	t.Helper()
	was := valsText(vals(v))
	if got, want := typed.Val(s, kind, ref, v), wantVal(s, kind, ref, v); got != want {
		t.Fatalf("Val of kind %d, ref %d, %.300s, is %t", kind, ref, was, got)
	}
	if valsText(vals(v)) != was {
		t.Fatalf("Val changes %.300s", was)
	}
}

// P10.1: the schema that most tests ask may be.
func TestWhole(t *testing.T) {
	s := whole()
	if !table.May(s) || len(s.M) != msgs {
		t.Fatalf("%+v", s)
	}
	for m, want := range []int{30, 27, 2, 0} {
		if len(s.M[m].F) != want {
			t.Errorf("message %d has %d fields", m, len(s.M[m].F))
		}
	}
}

// P10.1: Val: a value of each kind that is of it, and one that is not for each reason.
func TestValExamples(t *testing.T) {
	five, other := msg(slot(1, num(5))), msg(slot(2, num(5)))
	both := func(n int64, s string, l ...api.Msg) api.Val { return api.Val{N: n, S: s, M: l} }
	counts := []int{api.Int, api.Sint, api.Uint, api.Flag, api.Fix4, api.Fix8, api.Enum}
	texts := []int{api.Text, api.Raw}
	is := func(want bool, what string, kinds []int, l ...api.Val) {
		t.Helper()
		for _, kind := range kinds {
			for _, v := range l {
				if typed.Val(whole(), kind, few, v) != want {
					t.Errorf("%s: kind %d, %s, is not %t", what, kind, valsText(vals(v)), want)
				}
				holdVal(t, whole(), kind, few, v)
			}
		}
	}
	is(true, "0 and 1", counts, num(0), num(1))
	is(true, "a list of messages that has none", counts, api.Val{N: 1, M: []api.Msg{}})
	is(true, "any number", []int{api.Int, api.Sint, api.Fix8}, nums(-1, math.MinInt64, math.MaxInt64, 1<<32, -1<<31-1)...)
	is(true, "up to 32 bits", []int{api.Uint, api.Fix4}, nums(2, 1<<31, 1<<32-1)...)
	is(false, "beyond 32 bits, or below 0", []int{api.Uint, api.Fix4}, nums(1<<32, -1, math.MinInt64, math.MaxInt64, 1<<32+1)...)
	is(false, "no flag", []int{api.Flag}, nums(2, -1, 1<<32, 1<<32+1, math.MinInt64)...)
	is(true, "32 bits, below 0 too", []int{api.Enum}, nums(-1, 5, 7, 1<<31-1, -1<<31)...)
	is(false, "beyond 32 bits, below 0 too", []int{api.Enum}, nums(1<<31, -1<<31-1, 1<<32-1, 1<<32, math.MaxInt64)...)
	is(false, "a text where there must be none", counts, str("a"), both(1, "1"), str("\x00"))
	is(false, "a message where there must be none", counts, sub(msg()), sub(five), both(1, "", five), sub(msg(), msg()))
	is(true, "texts", texts, strs("", "a", "\x00", "é", "\uFFFD", "\U0010FFFF", strings.Repeat("long", 5000))...)
	is(false, "no UTF-8", []int{api.Text}, strs("\xff", "a\xff", "\xc3", "é\x80", "\xed\xa0\x80", "\xc0\x80", "\xf4\x90\x80\x80", "\xe2\x82")...)
	is(true, "no UTF-8", []int{api.Raw}, strs("\xff", "a\xff", "\xc3", "é\x80", "\xed\xa0\x80", "\xc0\x80")...)
	is(false, "a number beside a text", texts, num(1), num(-1), both(5, "a"), num(1<<32))
	is(false, "a message beside a text", texts, sub(msg()), both(0, "a", five), sub(msg(), msg()))
	is(true, "one message", []int{api.Sub}, sub(msg()), sub(five))
	is(false, "no message", []int{api.Sub}, api.Val{}, api.Val{M: []api.Msg{}})
	is(false, "two messages", []int{api.Sub}, sub(five, five), sub(msg(), msg()), sub(five, other))
	is(false, "a number or a text beside a message", []int{api.Sub}, both(1, "", five), both(0, "a", five), both(-1, "a", five))
	is(false, "a message that is not of its own", []int{api.Sub}, sub(other), sub(msg(slot(1, str("5")))), sub(msg(slot(1))))
	is(false, "no such kind", []int{math.MinInt, -2, -1, 10, 11, 1 << 32, math.MaxInt}, api.Val{}, num(1), str("a"), sub(five))
}

// somePossible are values of numbers, texts and messages at all edges, together.
func somePossible() []api.Val {
	numbers := []int64{0, 1, 2, -1, 1<<31 - 1, 1 << 31, -1 << 31, -1<<31 - 1, 1<<32 - 1, 1 << 32, math.MinInt64, math.MaxInt64}
	texts := []string{"", "a", "é", "\xff", "a\xed\xa0\x80"}
	five, maxNo := slot(1, num(5)), slot(api.MaxNo, str("z"))
	lists := [][]api.Msg{
		nil, {}, {msg()}, {msg(), msg()}, {msg(five)}, {msg(maxNo, five)}, {msg(five, five)}, {msg(slot(1, str("a")))},
		{msg(pairs(byKey, nums(1), vals(sub(msg(five)))))}, {msg(slot(api.Text+alone, str("\xff")))}, {msg(), msg(slot(31))},
	}
	var out []api.Val
	for _, n := range numbers {
		for _, s := range texts {
			for _, l := range lists {
				out = append(out, api.Val{N: n, S: s, M: l})
			}
		}
	}
	return out
}

// P10.1: Val of values at all edges, of each kind, and of what is none.
func TestValAll(t *testing.T) {
	s := whole()
	for kind := -2; kind <= api.Kinds+1; kind++ {
		for _, v := range somePossible() {
			holdVal(t, s, kind, few, v)
		}
	}
}

// P10.1: Val of a Sub asks the message ref, that there must be; of other kinds ref does not matter.
func TestValRef(t *testing.T) {
	s := whole()
	for _, ref := range []int{math.MinInt, -1 << 32, -5, -1, forms, maps, few, none, msgs, msgs + 1, 20, 1 << 32, math.MaxInt} {
		if got, want := typed.Val(s, api.Sub, ref, sub(msg())), ref >= 0 && ref < msgs; got != want {
			t.Errorf("Sub of message %d: %t", ref, got)
		}
		for kind := api.Int; kind < api.Sub; kind++ {
			if !typed.Val(s, kind, ref, api.Val{}) {
				t.Errorf("kind %d, ref %d", kind, ref)
			}
		}
		for kind := range api.Kinds {
			for i, v := range somePossible() {
				if i%3 == kind%3 {
					holdVal(t, s, kind, ref, v)
				}
			}
		}
	}
}

// wrongSchemas are those that may not be, each for another reason.
func wrongSchemas() []api.Schema {
	out := []api.Schema{{}, {M: []api.MsgDef{}}, {E: whole().E}, {M: make([]api.MsgDef, 2)}}
	for _, do := range []func(s *api.Schema){
		func(s *api.Schema) { s.M[none].Name = "Few" },
		func(s *api.Schema) { s.M[none].Name = "int64" },
		func(s *api.Schema) { s.E[1].Name = "E" },
		func(s *api.Schema) { s.E[1].N[0] = 1 },
		func(s *api.Schema) { s.E = s.E[:1] },
		func(s *api.Schema) { s.M[few].F[1].No = api.MaxNo + 1 },
		func(s *api.Schema) { s.M[few].F[1].No = 1 },
		func(s *api.Schema) { s.M[few].F[1].No = 19500 },
		func(s *api.Schema) { s.M[few].F[1].Name = s.M[few].F[0].Name },
		func(s *api.Schema) { s.M[few].F[1].Kind = api.Kinds },
		func(s *api.Schema) { s.M[few].F[1].Kind = -1 },
		func(s *api.Schema) { s.M[few].F[1].Ref = 1 },
		func(s *api.Schema) { s.M[forms].F[api.Sub].Ref = msgs },
		func(s *api.Schema) { s.M[forms].F[api.Sub].Ref = -1 },
		func(s *api.Schema) { s.M[few].F[1].Key = api.Raw },
		func(s *api.Schema) { s.M[few].F[1].Key = -2 },
		func(s *api.Schema) { s.M[few].F[1].One = 31 },
		func(s *api.Schema) { s.M[few].F[1].One, s.M[few].F[1].Rep = 1, true },
		func(s *api.Schema) { s.M[few].F[1].Key, s.M[few].F[1].Rep = 0, true },
		func(s *api.Schema) { slices.Reverse(s.M[few].F) },
		func(s *api.Schema) { s.M = append(s.M, make([]api.MsgDef, 17)...) },
	} {
		s := whole()
		do(&s)
		out = append(out, s)
	}
	return out
}

// P10.1, P10.2: of a schema that may not be all is false, and nothing.
func TestWrongSchemas(t *testing.T) {
	fine := msg(slot(1, num(5)))
	for i, s := range wrongSchemas() {
		if table.May(s) {
			t.Fatalf("schema %d may be", i)
		}
		for m := -1; m <= len(s.M); m++ {
			for _, x := range []api.Msg{msg(), fine} {
				n, ok := typed.Normal(s, m, x)
				if typed.May(s, m, x) || ok || len(n.F) > 0 || typed.Is(s, m, x) || typed.Val(s, api.Sub, m, sub(x)) {
					t.Errorf("schema %d, message %d, %s", i, m, text(x))
				}
			}
		}
		for kind := range api.Sub {
			if typed.Val(s, kind, 0, api.Val{}) {
				t.Errorf("schema %d, kind %d", i, kind)
			}
		}
	}
}

// P10.1: a message without slots is of each message that there is.
func TestMayMessages(t *testing.T) {
	for many := 1; many <= api.MaxMsgs; many++ {
		var s api.Schema
		for m := range many {
			s.M = append(s.M, api.MsgDef{Name: fmt.Sprint("M", m)})
		}
		for _, m := range []int{math.MinInt, -1 << 32, -2, -1, 0, 1, 2, many - 2, many - 1, many, many + 1, 21, 1 << 32, math.MaxInt} {
			want := m >= 0 && m < many
			n, ok := typed.Normal(s, m, msg())
			if typed.May(s, m, msg()) != want || ok != want || typed.Is(s, m, api.Msg{F: []api.Slot{}}) != want || len(n.F) > 0 {
				t.Errorf("message %d of %d", m, many)
			}
			if typed.Val(s, api.Sub, m, sub(msg())) != want {
				t.Errorf("Val of message %d of %d", m, many)
			}
		}
	}
}

// read is a schema's text, read.
func read(t *testing.T, s string) api.Schema {
	t.Helper()
	out, at, err := table.Read(s)
	if err != api.OK {
		t.Fatalf("%s: %d at %d", s, err, at)
	}
	return out
}

// small is a schema's text that has each form.
const small = `
message A { int64 n = 1; repeated bool b = 2; map<string, A> m = 3; oneof o { string t = 4; bytes r = 5; A x = 6; } A a = 7; E e = 8; repeated A l = 9; map<sint64, bytes> k = 10; oneof q { bool u = 11; int64 v = 12; } B c = 13; }
message B { uint32 n = 1; string s = 14; }
enum E { Z = 0; }`

// P10.1: May of messages, each wrong one for one reason.
func TestMayExamples(t *testing.T) {
	s := read(t, small)
	a, b := sub(msg(slot(1, num(1)))), sub(msg(slot(14, str("s"))))
	for _, c := range []struct {
		name string
		want bool
		l    []api.Slot
	}{
		{"nothing", true, nil},
		{"no slots", true, []api.Slot{}},
		{"a number", true, []api.Slot{slot(1, num(-5))}},
		{"a default number", true, []api.Slot{slot(1, num(0))}},
		{"an enum's number without a name", true, []api.Slot{slot(8, num(5))}},
		{"slots that are not in order", true, []api.Slot{slot(8, num(5)), slot(2), slot(1, num(1))}},
		{"no field's: 0", false, []api.Slot{slot(0, num(1))}},
		{"no field's: 0, without values", false, []api.Slot{slot(0)}},
		{"no field's: below 0", false, []api.Slot{slot(-1, num(1))}},
		{"no field's: above all", false, []api.Slot{slot(15)}},
		{"no field's: another message's", false, []api.Slot{slot(14, str("s"))}},
		{"no field's: beyond 32 bits", false, []api.Slot{slot(1+1<<32, num(1))}},
		{"no field's, the last one", false, []api.Slot{slot(1, num(1)), slot(2, num(1)), slot(99, num(1))}},
		{"no field's, the first one", false, []api.Slot{slot(99), slot(2, num(1))}},
		{"none of one", false, []api.Slot{slot(1)}},
		{"two of one", false, []api.Slot{slot(1, num(1), num(2))}},
		{"two of one, the same", false, []api.Slot{slot(1, num(1), num(1))}},
		{"three of one", false, []api.Slot{slot(1, num(0), num(0), num(0))}},
		{"none of one message", false, []api.Slot{slot(7)}},
		{"two of one message", false, []api.Slot{slot(7, a, a)}},
		{"none in a oneof", false, []api.Slot{slot(4)}},
		{"two in a oneof", false, []api.Slot{slot(4, str("a"), str("b"))}},
		{"none, repeated", true, []api.Slot{slot(2)}},
		{"one, repeated", true, []api.Slot{slot(2, num(1))}},
		{"three, repeated", true, []api.Slot{slot(2, num(1), num(0), num(1))}},
		{"repeated, the first one wrong", false, []api.Slot{slot(2, num(2), num(0), num(1))}},
		{"repeated, the middle one wrong", false, []api.Slot{slot(2, num(0), str("a"), num(1))}},
		{"repeated, the last one wrong", false, []api.Slot{slot(2, num(1), num(0), num(-1))}},
		{"repeated messages", true, []api.Slot{slot(9, a, sub(msg()), a)}},
		{"repeated messages, the last one wrong", false, []api.Slot{slot(9, a, sub(msg()), b)}},
		{"two slots of one number", false, []api.Slot{slot(1, num(1)), slot(1, num(1))}},
		{"two slots of one number, repeated", false, []api.Slot{slot(2, num(1)), slot(2, num(1))}},
		{"two slots of one number, without values", false, []api.Slot{slot(2), slot(2)}},
		{"two slots of one number, others between", false, []api.Slot{slot(2, num(1)), slot(1, num(1)), slot(8, num(1)), slot(2)}},
		{"two slots of one number, of a map", false, []api.Slot{pairs(3, strs("a"), vals(a)), pairs(3, strs("b"), vals(a))}},
		{"one of each oneof", true, []api.Slot{slot(5, str("\xff")), slot(12, num(0))}},
		{"one of each oneof, and others", true, []api.Slot{slot(11, num(0)), slot(1, num(1)), slot(6, a), slot(7, a)}},
		{"two in one oneof", false, []api.Slot{slot(4, str("a")), slot(5, str("a"))}},
		{"two in one oneof, default", false, []api.Slot{slot(5, str("")), slot(4, str(""))}},
		{"two in one oneof, others between", false, []api.Slot{slot(6, a), slot(1, num(1)), slot(11, num(1)), slot(4, str("a"))}},
		{"two in the other oneof", false, []api.Slot{slot(4, str("a")), slot(11, num(0)), slot(12, num(0))}},
		{"a oneof's value is wrong", false, []api.Slot{slot(4, str("\xff"))}},
		{"a oneof's message", true, []api.Slot{slot(6, sub(msg()))}},
		{"a oneof's message is wrong", false, []api.Slot{slot(6, b)}},
		{"a map without entries", true, []api.Slot{slot(3)}},
		{"a map", true, []api.Slot{pairs(3, strs("k", ""), vals(a, sub(msg())))}},
		{"a map, its keys the same", true, []api.Slot{pairs(10, nums(1, 1, 1), strs("", "a", "\xff"))}},
		{"fewer keys", false, []api.Slot{pairs(10, nums(1), strs("a", "b"))}},
		{"no keys", false, []api.Slot{slot(10, str("a"))}},
		{"more keys", false, []api.Slot{pairs(10, nums(1, 2, 3), strs("a", "b"))}},
		{"only keys", false, []api.Slot{pairs(10, nums(1), nil)}},
		{"the first key is wrong", false, []api.Slot{pairs(10, vals(str("a"), num(1)), strs("a", "b"))}},
		{"the last key is wrong", false, []api.Slot{pairs(10, vals(num(1), sub(msg())), strs("a", "b"))}},
		{"a key that is no UTF-8", false, []api.Slot{pairs(3, strs("\xff"), vals(a))}},
		{"a key that is a message", false, []api.Slot{pairs(3, vals(a), vals(a))}},
		{"a map's first value is wrong", false, []api.Slot{pairs(10, nums(1, 2), vals(num(1), str("b")))}},
		{"a map's last value is wrong", false, []api.Slot{pairs(3, strs("k", "l"), vals(a, b))}},
		{"a map's first value is wrong, of one key", false, []api.Slot{pairs(3, strs("k", "k"), vals(b, a))}},
		{"keys of one", false, []api.Slot{pairs(1, nums(1), nums(1))}},
		{"keys of one, without text", false, []api.Slot{pairs(8, nums(0), nums(0))}},
		{"keys of what is repeated", false, []api.Slot{pairs(2, nums(1), nums(1))}},
		{"keys of what is repeated, without values", false, []api.Slot{pairs(2, nums(1), nil)}},
		{"keys in a oneof", false, []api.Slot{pairs(4, strs("a"), strs("a"))}},
		{"empty keys of what is no map", true, []api.Slot{pairs(1, vals(), nums(1)), pairs(2, vals(), vals())}},
		{"messages within", true, []api.Slot{slot(7, sub(msg(slot(7, sub(msg(slot(13, b)))))))}},
		{"a wrong message within messages", false, []api.Slot{slot(7, sub(msg(slot(7, sub(msg(slot(13, sub(msg(slot(2)))))))))), slot(1, num(1))}},
		{"a message within is another's", false, []api.Slot{slot(13, sub(msg(slot(8, num(1)))))}},
		{"a message within has a number beyond its kind's", false, []api.Slot{slot(13, sub(msg(slot(1, num(-1)))))}},
		{"a message within a map's value has a slot twice", false, []api.Slot{pairs(3, strs("k"), vals(sub(msg(slot(2), slot(2)))))}},
		{"one number, and one oneof, of several messages", true, []api.Slot{slot(4, str("")), slot(9, sub(msg(slot(5, str("")))), sub(msg(slot(6, a), slot(9))))}},
	} {
		x := api.Msg{F: c.l}
		if got := typed.May(s, 0, x); got != c.want {
			t.Errorf("%s: %t", c.name, got)
		}
		hold(t, s, 0, x)
		if got := typed.Val(s, api.Sub, 0, sub(x)); got != c.want {
			t.Errorf("%s: Val is %t", c.name, got)
		}
	}
}

// fewLists are lists of values, and of keys: none, one and several, right and wrong ones first and last.
func fewLists() [][]api.Val {
	five := sub(msg(slot(1, num(5))))
	return [][]api.Val{
		nil, {}, nums(0), nums(1), nums(-1), nums(0, 1), nums(1, 1), nums(0, 1<<40), nums(1<<40, 0), nums(0, 1, 0),
		strs(""), strs("a"), strs("\xff"), strs("a", "b"), strs("a", "\xff"), strs("\xff", "a"), strs("b", "a", "b"),
		{five}, {five, five}, {five, sub()}, {five, sub(msg(), msg())}, {five, five, sub(msg())}, {num(0), five}, {five, str("")},
		{api.Val{N: 1, S: "a"}}, {api.Val{N: 1, M: []api.Msg{msg()}}}, {sub(msg(slot(2)))},
	}
}

// P10.1, P10.2: each field of each message with all lists of values and keys.
func TestMayFields(t *testing.T) {
	s := whole()
	for m := range s.M {
		for _, f := range s.M[m].F {
			for _, v := range fewLists() {
				for i, k := range fewLists() {
					if f.Key == api.NoKey && i > 5 {
						break
					}
					hold(t, s, m, msg(pairs(f.No, k, v)))
				}
			}
		}
	}
}

// right is a slot of a field that may be, without messages of fields.
func right(f api.FieldDef) api.Slot {
	out := slot(f.No, api.Val{})
	if f.Kind == api.Sub {
		out.V[0].M = []api.Msg{msg()}
	}
	if f.Key != api.NoKey {
		out.K = vals(api.Val{})
	}
	return out
}

// P10.1: each two fields of a message, in both orders: only those of one number, or one oneof, may not be.
func TestMayTwo(t *testing.T) {
	s := whole()
	for m := range s.M {
		for _, f := range s.M[m].F {
			for _, g := range s.M[m].F {
				x := msg(right(f), right(g))
				want := f.No != g.No && (f.One == 0 || f.One != g.One)
				if got := typed.May(s, m, x); got != want {
					t.Errorf("fields %d and %d of message %d: %t", f.No, g.No, m, got)
				}
				hold(t, s, m, x)
			}
		}
	}
}

// P10.1: a slot of each number about those of fields, ahead of others and behind.
func TestMayNumbers(t *testing.T) {
	s := whole()
	for m := range s.M {
		for _, no := range []int{math.MinInt, -1 << 32, -30, -2, -1, 0, 1, 2, 7, 8, 9, 10, 11, 12, 20, 21, 30, 31, 32, 1 << 29, api.MaxNo - 1, api.MaxNo, 1 << 32, 1<<32 + 1, math.MaxInt} {
			f, ok := fieldOf(s, m, no)
			x := slot(no)
			if ok {
				x = right(f)
			}
			if got := typed.May(s, m, msg(x)); got != ok {
				t.Errorf("number %d of message %d: %t", no, m, got)
			}
			for _, f := range s.M[m].F {
				hold(t, s, m, msg(right(f), x))
				hold(t, s, m, msg(x, right(f)))
			}
		}
	}
}

// arounds are all ways in which a message may stand in another one, the deepest one ahead of others and behind them.
func arounds() []func(x api.Msg) api.Msg {
	shallow := sub(msg())
	return []func(x api.Msg) api.Msg{
		func(x api.Msg) api.Msg { return msg(slot(7, sub(x))) },
		func(x api.Msg) api.Msg { return msg(slot(6, sub(x))) },
		func(x api.Msg) api.Msg { return msg(slot(9, sub(x))) },
		func(x api.Msg) api.Msg { return msg(slot(9, shallow, sub(x))) },
		func(x api.Msg) api.Msg { return msg(slot(9, sub(x), shallow)) },
		func(x api.Msg) api.Msg { return msg(pairs(3, strs("k"), vals(sub(x)))) },
		func(x api.Msg) api.Msg { return msg(pairs(3, strs("b", "a"), vals(shallow, sub(x)))) },
		func(x api.Msg) api.Msg { return msg(pairs(3, strs("k", "k"), vals(sub(x), shallow))) },
		func(x api.Msg) api.Msg { return msg(slot(7, shallow), slot(9, sub(x)), slot(6, shallow)) },
		func(x api.Msg) api.Msg { return msg(slot(1, num(1)), slot(7, sub(x)), slot(2)) },
	}
}

// P10.1: May of messages that are 63, 64 and 65 deep, Val of those that are 62, 63 and 64 deep, and others.
func TestDeep(t *testing.T) {
	s := read(t, small)
	for i, around := range arounds() {
		for _, deep := range []int{1, 2, 3, 60, 61, 62, 63, 64, 65, 66, 67, 100, 128, 129} {
			x := nest(deep, msg(), around)
			if wantDeep(x) != deep {
				t.Fatalf("%d: %d deep, not %d", i, wantDeep(x), deep)
			}
			if got := typed.May(s, 0, x); got != (deep <= 64) {
				t.Errorf("%d: May of %d deep is %t", i, deep, got)
			}
			if got := typed.Val(s, api.Sub, 0, sub(x)); got != (deep <= 63) {
				t.Errorf("%d: Val of %d deep is %t", i, deep, got)
			}
			hold(t, s, 0, x)
			if typed.May(s, 0, nest(deep, msg(slot(99)), around)) || typed.May(s, 0, nest(deep, msg(slot(1)), around)) {
				t.Errorf("%d: May of %d deep, the last one wrong", i, deep)
			}
		}
	}
}

// P10.1: how deep a message is where none may stand does not matter: none may.
func TestDeepElsewhere(t *testing.T) {
	s := read(t, small)
	for _, deep := range []int{1, 62, 63, 64, 65} {
		x := nest(deep, msg(), arounds()[0])
		for kind := range api.Sub {
			if typed.Val(s, kind, 0, sub(x)) {
				t.Errorf("Val of kind %d, %d deep", kind, deep)
			}
		}
		for _, l := range []api.Slot{
			slot(1, sub(x)), slot(2, sub(x)), slot(4, sub(x)), slot(7, sub(msg(), x)), slot(7, sub(x, msg())),
			pairs(3, vals(sub(x)), vals(sub(msg()))), pairs(7, vals(sub(x)), vals(sub(msg()))), slot(13, sub(x), sub(x)),
		} {
			if typed.May(s, 0, msg(l)) {
				t.Errorf("May of %s", text(msg(l))[:20])
			}
		}
	}
}

// P1, R1: messages that are as deep, and as wide, as what is promised.
func TestVeryDeepAndWide(t *testing.T) {
	s := read(t, small)
	for i, around := range arounds() {
		x := nest(1<<16-1, msg(), around)
		n, ok := typed.Normal(s, 0, x)
		if typed.May(s, 0, x) || typed.Val(s, api.Sub, 0, sub(x)) || typed.Is(s, 0, x) || ok || len(n.F) > 0 {
			t.Errorf("%d: a message that is 65535 deep may be", i)
		}
	}
	const many = 20000
	wide := msg(pairs(10, make([]api.Val, many), make([]api.Val, many)), slot(2, make([]api.Val, many)...))
	for i := range many {
		wide.F[0].K[i].N = int64(i % (many / 2))
		wide.F[0].V[i].S = fmt.Sprint(i)
	}
	n, ok := typed.Normal(s, 0, wide)
	if !ok || len(n.F) != 2 || len(n.F[0].V) != many || len(n.F[1].K) != many/2 || n.F[1].V[0].S != "10000" || n.F[1].V[many/2-1].S != "19999" {
		t.Errorf("a wide message is not normal")
	}
	if !typed.May(s, 0, wide) || typed.Is(s, 0, wide) || !typed.Is(s, 0, n) {
		t.Errorf("a wide message")
	}
	if typed.May(s, 0, api.Msg{F: make([]api.Slot, many)}) || typed.Val(s, api.Sub, 0, api.Val{M: make([]api.Msg, many)}) {
		t.Errorf("very many zero slots, or messages, may be")
	}
}

// P1, R1, R4: zero values, and nil ones.
func TestZeroValues(t *testing.T) {
	n, ok := typed.Normal(api.Schema{}, 0, api.Msg{})
	if typed.Val(api.Schema{}, 0, 0, api.Val{}) || typed.May(api.Schema{}, 0, api.Msg{}) || ok || len(n.F) > 0 || typed.Is(api.Schema{}, 0, api.Msg{}) {
		t.Errorf("of no schema")
	}
	s := api.Schema{M: []api.MsgDef{{F: []api.FieldDef{{No: 1}}}}}
	for _, x := range []api.Msg{{}, {F: make([]api.Slot, 1)}, {F: make([]api.Slot, 2)}, msg(slot(1)), msg(slot(1, api.Val{})), msg(pairs(1, make([]api.Val, 2), make([]api.Val, 2)))} {
		hold(t, s, 0, x)
		hold(t, s, 1, x)
		hold(t, s, -1, x)
	}
	if !typed.Val(s, 0, 0, api.Val{}) || typed.Val(s, api.Sub, 0, api.Val{}) {
		t.Errorf("of a zero value")
	}
}

// R5: what is told does not hang on what was asked before, nor on chance.
func TestAgain(t *testing.T) {
	s := whole()
	chance := rand.New(rand.NewPCG(10, 5))
	var asked []api.Msg
	var told []string
	for range 100 {
		x := someMsg(chance, s, maps, 4)
		n, _ := typed.Normal(s, maps, x)
		asked, told = append(asked, x), append(told, text(n))
	}
	for range 5 {
		for i, x := range asked {
			if n, ok := typed.Normal(s, maps, x); !ok || text(n) != told[i] {
				t.Fatalf("Normal of %s is another one", text(x))
			}
		}
	}
}
