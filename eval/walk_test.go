package eval_test

import (
	"slices"
	"strings"
	"testing"

	"truffle/api"
	"truffle/eval"
)

// some is a message of message A of the small schema, which is not normal: a 7, r 3, -1 and 4, t "x"; s, whose r is too great together, and whose s has an a of 9; m with three keys of which one stands twice; p 0; l, k, u, z, n, g and h with several.
func some() api.Msg {
	return msg(
		slot(20, sub(slot(1, num(4))), sub(), sub(slot(2, nums(5, 6)...))),
		slot(1, num(7)),
		slot(2, nums(3, -1, 4)...),
		slot(3, str("x")),
		slot(13, num(0)),
		slot(15, str("")),
		slot(17, num(0)),
		slot(4, sub(slot(2, nums(1<<62, 1<<62)...), slot(6, num(0)), slot(1, num(0)), slot(4, sub(slot(1, num(9)))))),
		pairs(5, strs("b", "", "b", "a"), []api.Val{sub(slot(1, num(4))), sub(slot(1, num(6))), sub(slot(3, str("last")), slot(1, num(5))), sub()}),
		slot(6, num(0)),
		slot(9, sub(slot(1, num(1))), sub(slot(2, num(9)), slot(1, num(0))), sub()),
		pairs(10, nums(1, 0, 1), strs("old", "", "\xff")),
		slot(11, strs("", "é", "b")...),
		slot(12, nums(1, 0)...),
		slot(16),
		pairs(18, nums(1<<32-1, 0, 7), nums(least, 0, 3)),
		pairs(21, nums(5, -5, 5), []api.Val{sub(slot(1, num(1))), sub(slot(1, num(2))), sub(slot(1, num(3)))}),
	)
}

// P16.1: a step that finds one, several, or nothing.
func TestWalkOfOneStep(t *testing.T) {
	s := read(t, small)
	found := func(no int, want ...api.Val) {
		t.Helper()
		holdFound(t, s, 0, some(), path(no), want...)
	}
	found(1, num(7))
	found(2, nums(3, -1, 4)...)
	found(3, str("x"))
	found(7)
	found(8)
	found(11, strs("", "é", "b")...)
	found(12, nums(1, 0)...)
	found(19)
	holdFound(t, s, 0, api.Msg{}, path(1))
	holdFound(t, s, 0, msg(), path(4))
	holdFound(t, s, 1, msg(slot(1, num(5))), path(1), num(5))
}

// P16.1: what is found is of what is normal: no default numbers but in a oneof, no slots without values, of each key the last entry, entries by rising keys; within others, too.
func TestWalkOfWhatIsNotNormal(t *testing.T) {
	s := read(t, small)
	found := func(l []api.Step, want ...api.Val) {
		t.Helper()
		holdFound(t, s, 0, some(), l, want...)
	}
	found(path(13))
	found(path(15))
	found(path(17))
	found(path(16))
	found(path(6), num(0))
	found(path(4, 6), num(0))
	found(path(4, 1))
	found(path(10), str(""), str("\xff"))
	found(path(18), num(0), num(3), num(least))
	found(path(5), sub(slot(1, num(6))), sub(), sub(slot(1, num(5)), slot(3, str("last"))))
	found(path(4), sub(slot(2, nums(1<<62, 1<<62)...), slot(4, sub(slot(1, num(9)))), slot(6, num(0))))
	found(path(9), sub(slot(1, num(1))), sub(slot(2, num(9))), sub())
	found(path(21), sub(slot(1, num(2))), sub(slot(1, num(3))))
	holdFound(t, s, 0, msg(slot(8, str(""))), path(8), str(""))
	holdFound(t, s, 0, msg(slot(3, str(""))), path(3))
}

// P16.1: a last step with a key finds just that entry's value, also a default one, without its key.
func TestWalkOfKeys(t *testing.T) {
	s := read(t, small)
	found := func(l []api.Step, want ...api.Val) {
		t.Helper()
		holdFound(t, s, 0, some(), l, want...)
	}
	found([]api.Step{byText(5, "b")}, sub(slot(1, num(5)), slot(3, str("last"))))
	found([]api.Step{byText(5, "a")}, sub())
	found([]api.Step{byText(5, "")}, sub(slot(1, num(6))))
	found([]api.Step{byText(5, "c")})
	found([]api.Step{byText(5, "bb")})
	found([]api.Step{byText(5, "\xff")})
	found([]api.Step{byNum(10, 0)}, str(""))
	found([]api.Step{byNum(10, 1)}, str("\xff"))
	found([]api.Step{byNum(18, 0)}, num(0))
	found([]api.Step{byNum(18, 7)}, num(3))
	found([]api.Step{byNum(18, 1<<32-1)}, num(least))
	found([]api.Step{byNum(18, 1)})
	found([]api.Step{byNum(21, -5)}, sub(slot(1, num(2))))
	found([]api.Step{byNum(21, -6)})
	holdFound(t, s, 0, msg(), []api.Step{byText(5, "")})
	holdFound(t, s, 0, msg(pairs(10, nums(1), strs("x"))), []api.Step{byNum(10, 0)})
}

// P16.1: steps ahead lead through messages that are there, and that are not, and through entries.
func TestWalkThroughOthers(t *testing.T) {
	s := read(t, small)
	found := func(l []api.Step, want ...api.Val) {
		t.Helper()
		holdFound(t, s, 0, some(), l, want...)
	}
	found(path(4, 2), nums(1<<62, 1<<62)...)
	found(path(4, 4, 1), num(9))
	found(path(4, 4, 4, 1))
	found(path(4, 4, 4, 4))
	found(path(4, 19, 3, 4, 2))
	found(path(19, 1))
	found(path(7, 2))
	found(append([]api.Step{byText(5, "b")}, path(1)...), num(5))
	found(append([]api.Step{byText(5, "b")}, path(3)...), str("last"))
	found(append([]api.Step{byText(5, "b")}, path(2)...))
	found(append([]api.Step{byText(5, "a")}, path(1)...))
	found(append([]api.Step{byText(5, "c")}, path(1)...))
	found(append([]api.Step{byText(5, "c")}, path(4, 1)...))
	found(append([]api.Step{byNum(21, 5)}, path(1)...), num(3))
	found(append([]api.Step{byNum(21, 6)}, path(1)...))
	found([]api.Step{step(4), byText(5, "b")})
	found([]api.Step{byText(5, "b"), byText(5, "b")})
	x := msg(slot(7, sub(pairs(5, strs("k"), []api.Val{sub(slot(4, sub(pairs(10, nums(1), strs("end")))))}))))
	holdFound(t, s, 0, x, []api.Step{step(7), byText(5, "k"), step(4), byNum(10, 1)}, str("end"))
	holdFound(t, s, 0, x, []api.Step{step(7), byText(5, "k"), step(4), step(10)}, str("end"))
	holdFound(t, s, 0, x, []api.Step{step(4), byText(5, "k"), step(4), byNum(10, 1)})
	// Another field's value does not stand for one that is not there.
	holdFound(t, s, 0, msg(slot(19, sub(slot(3, sub(slot(1, num(3))))))), path(19, 3, 1), num(3))
	holdFound(t, s, 0, msg(slot(19, sub(slot(3, sub(slot(1, num(3))))))), path(4, 1))
}

// P16.1: paths of all lengths, of which 16 is the longest, through messages that go on so far, and less far.
func TestWalkOfLongPaths(t *testing.T) {
	s := read(t, small)
	for deep := range 20 {
		x := msg(slot(2, nums(1, 2)...))
		for range deep {
			x = msg(slot(4, api.Val{M: []api.Msg{x}}))
		}
		for many := range 19 {
			l := append(path(slices.Repeat([]int{4}, many)...), step(2))
			var want []api.Val
			if many == deep && len(l) <= 16 {
				want = nums(1, 2)
			}
			holdFound(t, s, 0, x, l, want...)
		}
	}
}

// P16.1: each field of all forms, filled in several ways, with each kind of keys, that are there and that are not.
func TestWalkOfAllForms(t *testing.T) {
	s := whole()
	found := map[bool]int{}
	for m := range none {
		for _, f := range s.M[m].F {
			for _, x := range fills(f) {
				for _, y := range s.M[m].F {
					for _, last := range steps(y) {
						_, ok := holdWalk(t, s, m, x, []api.Step{last})
						found[ok]++
					}
				}
			}
		}
	}
	if found[true] < 250 || found[false] < 5000 {
		t.Errorf("%v", found)
	}
}

// P16.1: the same, through each field that leads to one message, that is there and that is not.
func TestWalkThroughAllForms(t *testing.T) {
	s := whole()
	found := map[bool]int{}
	for m := range none {
		for _, f := range s.M[m].F {
			for _, ahead := range steps(f) {
				if f.Kind != api.Sub || !ahead.Map && (f.Rep || f.Key != api.NoKey) {
					continue
				}
				for _, y := range s.M[f.Ref].F {
					for _, x := range fills(y) {
						for _, last := range steps(y) {
							holdThrough(t, s, m, f, x, ahead, last, found)
						}
					}
				}
			}
		}
	}
	if found[true] < 1000 || found[false] < 1000 {
		t.Errorf("%v", found)
	}
}

// holdThrough holds a path of two steps, through one message, the last one of several, or none.
func holdThrough(t *testing.T, s api.Schema, m int, f api.FieldDef, x api.Msg, ahead, last api.Step, found map[bool]int) {
	t.Helper()
	within := api.Val{M: []api.Msg{x}}
	l := []api.Msg{msg(slot(f.No, within))}
	if f.Key != api.NoKey {
		k := values(f.Key)
		l = []api.Msg{msg(pairs(f.No, []api.Val{k[1], k[0], k[1]}, []api.Val{sub(), sub(), within}))}
	}
	for _, outer := range append(l, api.Msg{}) {
		_, ok := holdWalk(t, s, m, outer, []api.Step{ahead, last})
		found[ok]++
	}
}

// fills are messages in which one field is filled, in several ways.
func fills(f api.FieldDef) []api.Msg {
	vals := values(f.Kind)
	switch {
	case f.Key != api.NoKey:
		var k, v []api.Val
		for i, key := range values(f.Key) {
			k, v = append(k, key, key), append(v, vals[i%len(vals)], vals[(i+1)%len(vals)])
		}
		slices.Reverse(k)
		return []api.Msg{msg(pairs(f.No, nil, nil)), msg(pairs(f.No, k[:1], v[:1])), msg(pairs(f.No, k, v))}
	case f.Rep:
		return []api.Msg{msg(slot(f.No)), msg(slot(f.No, vals[0])), msg(slot(f.No, vals...))}
	}
	var out []api.Msg
	for _, v := range vals {
		out = append(out, msg(slot(f.No, v)))
	}
	return out
}

// values are some of a kind, a default one first; messages have no slots, so that they are of any message.
func values(kind int) []api.Val {
	switch kind {
	case api.Int, api.Sint, api.Fix8:
		return nums(0, 1, -1, greatest, least)
	case api.Uint, api.Fix4:
		return nums(0, 1, 1<<32-1)
	case api.Flag:
		return nums(0, 1)
	case api.Enum:
		return nums(0, 7, 1<<31-1, -1<<31)
	case api.Text:
		return strs("", "k", "é")
	case api.Raw:
		return strs("", "k", "\xff")
	}
	return []api.Val{sub(), sub()}
}

// steps are those of a field: without a key, with keys that are among the values, and with one that is not.
func steps(f api.FieldDef) []api.Step {
	l := []api.Step{step(f.No)}
	if f.Key == api.NoKey {
		return l
	}
	for _, k := range values(f.Key) {
		l = append(l, byVal(f.No, k))
	}
	if f.Key == api.Text {
		return append(l, byText(f.No, "none"))
	}
	if f.Key != api.Flag {
		l = append(l, byNum(f.No, 77))
	}
	return l
}

// P16.1: what is no path from a message finds nothing there.
func TestWalkOfNoPath(t *testing.T) {
	s := read(t, small)
	for _, l := range [][]api.Step{
		nil, {}, {{}}, path(0), path(-1), path(14), path(99), path(22), path(1, 1), path(2, 1), path(9, 1), path(5, 1), path(3, 3), path(4, 99), path(4, 14),
		path(1<<40, 4), {byText(4, "")}, {byText(1, "x")}, {byNum(1, 0)}, {byNum(2, 0)}, {byNum(5, 1)}, {byText(10, "x")}, {byNum(10, 2)}, {byNum(10, -1)},
		{byNum(18, -1)}, {byNum(18, 1<<32)}, {{No: 1, N: 1}}, {{No: 1, S: "x"}}, {{No: 5, S: "b"}}, {{No: 10, N: 1}}, {{No: 5, Map: true, N: 1, S: "b"}}, {{No: 10, Map: true, N: 1, S: "b"}},
		{byText(10, "b"), step(1)}, {byNum(10, 1), step(1)}, {step(5), step(1)}, {step(4), byNum(4, 1)}, {byText(5, "b"), step(99)},
		append(path(slices.Repeat([]int{4}, 16)...), step(1)), path(slices.Repeat([]int{4}, 17)...), path(slices.Repeat([]int{4}, 1000)...),
	} {
		holdFound(t, s, 0, some(), l)
	}
	// Message B has other fields.
	for _, no := range []int{5, 9, 20} {
		holdFound(t, s, 1, msg(slot(1, num(5))), path(no))
	}
}

// wrongs are messages that are not of message A of the small schema, each for one reason.
func wrongs() map[string]api.Msg {
	deep := msg(slot(1, num(5)))
	for range 64 {
		deep = msg(slot(4, api.Val{M: []api.Msg{deep}}))
	}
	return map[string]api.Msg{
		"a field that there is not":           msg(slot(1, num(7)), slot(99, num(1))),
		"a slot that is nothing":              msg(api.Slot{}, slot(1, num(7))),
		"two slots of one number":             msg(slot(1, num(7)), slot(1, num(7))),
		"two of one oneof":                    msg(slot(1, num(7)), slot(6, num(1)), slot(8, str("x"))),
		"two values of one":                   msg(slot(1, nums(7, 7)...)),
		"no value of one":                     msg(slot(1)),
		"a text as a number":                  msg(slot(1, str("x"))),
		"a number as a text":                  msg(slot(1, num(7)), slot(3, num(7))),
		"a text that is no UTF-8":             msg(slot(1, num(7)), slot(3, str("\xff"))),
		"a number that does not fit":          msg(slot(1, num(7)), slot(6, num(2))),
		"keys of what is no map":              msg(slot(1, num(7)), pairs(2, nums(1), nums(1))),
		"a map with too few keys":             msg(slot(1, num(7)), pairs(18, nums(1), nums(1, 2))),
		"a map without keys":                  msg(slot(1, num(7)), slot(18, num(1))),
		"a key that does not fit":             msg(slot(1, num(7)), pairs(18, nums(-1), nums(1))),
		"a message that is none":              msg(slot(1, num(7)), slot(4, api.Val{})),
		"two messages in one":                 msg(slot(1, num(7)), slot(4, api.Val{M: make([]api.Msg, 2)})),
		"a message in a number":               msg(slot(1, api.Val{N: 7, M: make([]api.Msg, 1)})),
		"a wrong one within":                  msg(slot(1, num(7)), slot(4, sub(slot(99, num(1))))),
		"a wrong one in a map, that is late":  msg(slot(1, num(7)), pairs(5, strs("a", "a"), []api.Val{sub(slot(99, num(1))), sub()})),
		"65 within one another":               deep,
		"a message in a key":                  msg(slot(1, num(7)), pairs(5, []api.Val{sub()}, []api.Val{sub()})),
		"a text beside a message":             msg(slot(1, num(7)), slot(4, api.Val{S: "x", M: make([]api.Msg, 1)})),
		"a message of another message's":      msg(slot(1, num(7)), slot(19, sub(slot(5)))),
		"a field of which there is none here": msg(slot(1, num(7)), slot(19, sub(slot(3, sub(slot(14)))))),
	}
}

// P16.1: in a message that is not one, nothing is found; in one that is just deep enough it is.
func TestWalkOfNoMessage(t *testing.T) {
	s := read(t, small)
	for what, x := range wrongs() {
		for _, l := range [][]api.Step{path(1), path(4), path(4, 1), {byText(5, "a")}} {
			if got, ok := eval.Walk(s, 0, x, l); ok || showMsg(msg(got)) != showMsg(msg(api.Slot{})) {
				t.Errorf("%s: %s", what, cut(showMsg(msg(got))))
			}
			holdWalk(t, s, 0, x, l)
		}
	}
	x := msg(slot(1, num(5)))
	for range 63 {
		x = msg(slot(4, api.Val{M: []api.Msg{x}}))
	}
	holdFound(t, s, 0, x, path(4, 4, 1))
	want := x.F[0].V[0]
	for range 15 {
		want = want.M[0].F[0].V[0]
	}
	holdFound(t, s, 0, x, path(slices.Repeat([]int{4}, 16)...), want)
}

// P16.1, R1: with a schema that may not be, or at no message of it, nothing is found.
func TestWalkOfNoSchema(t *testing.T) {
	x := msg(slot(alone+api.Int, num(5)))
	holdFound(t, whole(), forms, x, path(alone+api.Int), num(5))
	for i, s := range wrongSchemas() {
		if got, ok := eval.Walk(s, forms, x, path(alone+api.Int)); ok || showMsg(msg(got)) != showMsg(msg(api.Slot{})) {
			t.Errorf("schema %d: %s, %t", i, showMsg(msg(got)), ok)
		}
		if got, ok := eval.Walk(s, 0, api.Msg{}, nil); ok || len(got.V) > 0 {
			t.Errorf("schema %d: %s, %t", i, showMsg(msg(got)), ok)
		}
	}
	for _, m := range noMessages {
		holdFound(t, whole(), m, x, path(alone+api.Int))
		holdFound(t, whole(), m, api.Msg{}, nil)
	}
	holdFound(t, whole(), none, api.Msg{}, path(1))
	holdFound(t, whole(), none, x, path(1))
}

// R3: what is changed in what is found changes nothing of what came in, nor what is found again; room behind lists stays as it was.
func TestWalkIsItsOwn(t *testing.T) {
	s := read(t, small)
	for _, l := range [][]api.Step{path(2), path(4), path(5), path(9), path(21), {byText(5, "b")}, path(4, 4)} {
		x := some()
		for i := range x.F {
			x.F[i].V = slices.Grow(x.F[i].V, 5)
			x.F[i].K = slices.Grow(x.F[i].K, 5)
		}
		was := showMsg(x)
		got, _ := holdWalk(t, s, 0, x, l)
		first := showMsg(msg(got))
		got.V = append(got.V, num(1))
		for i := range got.V {
			for _, m := range got.V[i].M {
				spoil(m)
			}
			got.V[i] = str("spoilt")
		}
		if showMsg(x) != was {
			t.Errorf("%s became %s", was, showMsg(x))
		}
		for _, y := range x.F {
			if strings.Contains(showVals(y.V[:cap(y.V)])+showVals(y.K[:cap(y.K)]), "spoilt") {
				t.Errorf("room behind %d is spoilt", y.No)
			}
		}
		if again, _ := eval.Walk(s, 0, x, l); showMsg(msg(again)) != first {
			t.Errorf("%s became %s", first, showMsg(msg(again)))
		}
	}
}

// spoil changes all that is in a message.
func spoil(m api.Msg) {
	for i := range m.F {
		for j := range m.F[i].V {
			for _, x := range m.F[i].V[j].M {
				spoil(x)
			}
			m.F[i].V[j] = str("spoilt")
		}
		m.F[i].No = 77
	}
}
