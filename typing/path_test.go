package typing_test

import (
	"math"
	"reflect"
	"slices"
	"strings"
	"testing"

	"truffle/api"
	"truffle/typing"
)

// numbers are some at the edges of what keys' kinds have.
var numbers = []int64{0, 1, 2, -1, -2, 7, math.MaxInt32, math.MinInt32, math.MaxInt32 + 1, math.MaxUint32, math.MaxUint32 + 1, math.MaxInt64, math.MinInt64}

// P15.1: what a path leads to, and the message that its last field is of, as literal answers.
func TestWherePathsLead(t *testing.T) {
	s := whole()
	field := func(m int, name string) api.FieldDef { return named(t, s, m, name) }
	for i, c := range []struct {
		m    int
		l    []api.Step
		want api.FieldDef
		ref  int
	}{
		{forms, path(alone + api.Int), api.FieldDef{No: 1, Name: "int", Kind: api.Int, Key: api.NoKey}, 0},
		{forms, path(alone + api.Enum), api.FieldDef{No: 7, Name: "enum", Kind: api.Enum, Ref: 1, Key: api.NoKey}, 0},
		{forms, path(alone + api.Sub), api.FieldDef{No: 10, Name: "sub", Kind: api.Sub, Ref: maps, Key: api.NoKey}, maps},
		{forms, path(repeated + api.Sub), api.FieldDef{No: 20, Name: "r_sub", Kind: api.Sub, Ref: few, Rep: true, Key: api.NoKey}, few},
		{forms, path(inOne + api.Sub), api.FieldDef{No: 30, Name: "o_sub", Kind: api.Sub, Key: api.NoKey, One: 30}, forms},
		{forms, path(repeated + api.Enum), field(forms, "r_enum"), 0},
		{maps, path(numToAny + api.Sub), api.FieldDef{No: 30, Name: "s_sub", Kind: api.Sub, Ref: few, Key: api.Sint}, few},
		{maps, path(textToAny + api.Enum), field(maps, "t_enum"), 0},
		{maps, []api.Step{byNum(numToAny+api.Sub, -5)}, field(maps, "s_sub"), few},
		{maps, []api.Step{byText(textToAny+api.Raw, "k")}, field(maps, "t_raw"), 0},
		{few, path(4), field(few, "eq"), few},
		{few, path(4, 4, api.MaxNo), field(few, "last"), 0},
		{forms, path(alone+api.Sub, byKey), field(maps, "k_int"), forms},
		{forms, []api.Step{step(alone + api.Sub), byNum(byKey, 3), step(repeated + api.Text)}, field(forms, "r_text"), 0},
		{forms, []api.Step{step(inOne + api.Sub), step(alone + api.Sub), byText(textToAny+api.Sub, ""), byNum(numToAny+api.Sub, 0), {No: 5, Map: true, N: 1}}, field(few, "raw"), 0},
	} {
		f, ref, ok := typing.Path(s, c.m, c.l)
		if f != c.want || ref != c.ref || !ok {
			t.Errorf("%d: %+v, %d, %t", i, f, ref, ok)
		}
		holdPath(t, s, c.m, c.l, true)
	}
}

// P15.1: of no step there is no path, from no message.
func TestPathsOfNoStep(t *testing.T) {
	s := whole()
	for m := range msgs {
		holdPath(t, s, m, nil, false)
		holdPath(t, s, m, []api.Step{}, false)
	}
}

// P15.1: each field of each message is a path of one step; a field of another message, and one that nobody has, are none.
func TestPathsOfOneStep(t *testing.T) {
	s := whole()
	for m := range msgs {
		for no := -2; no < 40; no++ {
			has := slices.ContainsFunc(s.M[m].F, func(f api.FieldDef) bool { return f.No == no })
			holdPath(t, s, m, path(no), has)
		}
		for _, no := range []int{api.MaxNo, api.MaxNo - 1, api.MaxNo + 1, 1<<32 + 1, math.MaxInt64, math.MinInt64} {
			holdPath(t, s, m, path(no), m == few && no == api.MaxNo)
		}
	}
}

// P15.1: a step with Map, or without, with a number, a text, or both, of each field: a map has a key of its kind, all else none.
func TestStepsWithKeysAndWithout(t *testing.T) {
	s := whole()
	fine := map[string]int{}
	for m := range msgs {
		for _, f := range s.M[m].F {
			for _, keyed := range []bool{false, true} {
				for _, n := range numbers {
					for _, text := range []string{"", "k", "\xff", "0"} {
						x := api.Step{No: f.No, Map: keyed, N: n, S: text}
						want := wantStep(f, x)
						holdPath(t, s, m, []api.Step{x}, want)
						if want && keyed {
							fine[kindNames[f.Key]]++
						}
					}
				}
			}
		}
	}
	// Of int, uint, flag, fix4 and fix8 there is one map each, of sint and text eleven.
	for kind, want := range map[string]int{"int": 13, "sint": 11 * 13, "uint": 7, "flag": 2 + 2, "fix4": 7, "fix8": 13, "text": 11 * 4} {
		if fine[kind] != want {
			t.Errorf("%d keys of %s, not %d", fine[kind], kind, want)
		}
	}
}

// P15.1: a key of each kind at its edges, as literal answers.
func TestKeysOfSteps(t *testing.T) {
	s := whole()
	for kind, c := range map[int]struct{ fit, not []int64 }{
		api.Int:  {[]int64{0, -1, math.MinInt64, math.MaxInt64}, nil},
		api.Sint: {[]int64{0, -1, math.MinInt64, math.MaxInt64}, nil},
		api.Uint: {[]int64{0, 1, 1<<32 - 1}, []int64{-1, 1 << 32, math.MinInt64, math.MaxInt64}},
		api.Flag: {[]int64{0, 1}, []int64{-1, 2, 1 << 32, 1<<32 + 1, math.MinInt64, math.MaxInt64}},
		api.Fix4: {[]int64{0, 1, 1<<32 - 1}, []int64{-1, 1 << 32, math.MinInt64, math.MaxInt64}},
		api.Fix8: {[]int64{0, -1, math.MinInt64, math.MaxInt64}, nil},
		api.Text: {[]int64{0}, []int64{1, -1, math.MaxInt64}},
	} {
		no := byKey + slices.Index(keyKinds, kind)
		for _, n := range c.fit {
			holdPath(t, s, maps, []api.Step{byNum(no, n)}, true)
			holdPath(t, s, maps, []api.Step{byNum(no, n), step(1)}, true)
			holdPath(t, s, maps, []api.Step{{No: no, Map: true, N: n, S: "k"}}, kind == api.Text)
		}
		for _, n := range c.not {
			holdPath(t, s, maps, []api.Step{byNum(no, n)}, false)
			holdPath(t, s, maps, []api.Step{byNum(no, n), step(1)}, false)
			holdPath(t, s, maps, []api.Step{{No: no, Map: true, N: n, S: "k"}}, false)
		}
		holdPath(t, s, maps, []api.Step{step(no)}, true)
		holdPath(t, s, maps, []api.Step{{No: no, N: 1}}, false)
		holdPath(t, s, maps, []api.Step{{No: no, S: "k"}}, false)
		holdPath(t, s, maps, []api.Step{step(no), step(1)}, false)
	}
}

// P15.1: a key that is a text may be any text, as long as it may be.
func TestKeysThatAreTexts(t *testing.T) {
	s := whole()
	for _, key := range []string{"", "k", " ", "é", "\xff\xc3", "\x00", "5", "true", strings.Repeat("k", 10000)} {
		holdPath(t, s, maps, []api.Step{byText(textToAny, key)}, true)
		holdPath(t, s, maps, []api.Step{byText(textToAny+api.Sub, key), byText(textToAny+api.Sub, key), step(byKey)}, true)
	}
}

// P15.1: a step of what is no map has no key, wherever it stands.
func TestKeysOfWhatIsNoMap(t *testing.T) {
	s := whole()
	for _, f := range s.M[forms].F {
		for _, l := range [][]api.Step{{byNum(f.No, 0)}, {byNum(f.No, 1)}, {byText(f.No, "k")}, {{No: f.No, N: 1}}, {{No: f.No, N: -1}}, {{No: f.No, S: "k"}}} {
			holdPath(t, s, forms, l, false)
			holdPath(t, s, forms, append(path(inOne+api.Sub), l...), false)
			holdPath(t, s, forms, append(l, step(inOne+api.Sub)), false)
		}
	}
}

// steps are some of each field that there is: as it is, with a key that its kind has, and with one that it has not.
func steps(s api.Schema, m int) []api.Step {
	var l []api.Step
	for _, f := range s.M[m].F {
		l = append(l, step(f.No), byNum(f.No, 1), byText(f.No, "k"), api.Step{No: f.No, N: 1})
	}
	return append(l, step(0), step(40))
}

// P15.1: all paths of two steps: the one ahead is a Sub that leads to one, and the next one a field of its message.
func TestPathsOfTwoSteps(t *testing.T) {
	s := whole()
	found := map[string]int{}
	for m := range msgs {
		for _, first := range steps(s, m) {
			for _, next := range slices.Concat(steps(s, forms), steps(s, maps), steps(s, few)) {
				l := []api.Step{first, next}
				_, want := wantEnd(s, m, l)
				holdPath(t, s, m, l, want)
				if want {
					f, _ := field(s, m, func(f api.FieldDef) bool { return f.No == first.No })
					found[f.Name]++
				}
			}
		}
	}
	names := slices.Collect(func(yield func(string) bool) {
		for name := range found {
			if !yield(name) {
				return
			}
		}
	})
	slices.Sort(names)
	want := strings.Fields("eq k_fix4 k_fix8 k_flag k_int k_sint k_text k_uint o_sub s_sub sub t_sub")
	if !slices.Equal(names, want) {
		t.Errorf("paths go on behind %v", names)
	}
}

// P15.1: each step of a path, the first one, the last one, and those between, may be wrong.
func TestPathsWithAStepThatIsWrong(t *testing.T) {
	s := whole()
	good := []api.Step{step(inOne + api.Sub), step(alone + api.Sub), byNum(byKey, -3), step(alone + api.Sub), byText(textToAny+api.Sub, "k"), byNum(numToAny+api.Sub, 2), step(4), step(3)}
	for many := range len(good) + 1 {
		holdPath(t, s, forms, good[:many], many > 0)
	}
	for i, x := range good {
		for _, wrong := range []api.Step{
			{}, step(0), step(-1), step(39), {No: x.No, Map: !x.Map, N: 5, S: "k"}, {No: x.No, Map: x.Map, N: 5, S: "k"},
			{No: x.No, N: x.N, S: "s"}, {No: -x.No, Map: x.Map, N: x.N, S: x.S},
		} {
			l := slices.Clone(good)
			l[i] = wrong
			holdPath(t, s, forms, l, false)
		}
	}
	for _, stop := range []int{alone, alone + api.Text, alone + api.Enum, repeated + api.Int, repeated + api.Sub, inOne} {
		holdPath(t, s, forms, path(stop), true)
		holdPath(t, s, forms, path(inOne+api.Sub, stop), true)
		holdPath(t, s, forms, path(stop, inOne+api.Sub), false)
		holdPath(t, s, forms, path(stop, 1), false)
		holdPath(t, s, forms, path(inOne+api.Sub, stop, 1), false)
	}
	for _, stop := range []int{byKey, textToAny, textToAny + api.Sub, numToAny + api.Sub} {
		holdPath(t, s, maps, path(stop), true)
		holdPath(t, s, maps, path(stop, 1), false)
		holdPath(t, s, forms, path(alone+api.Sub, stop, 1), false)
	}
}

// P15.1: a path of sixteen steps is one, whatever it ends with; of seventeen it is none.
func TestHowManyStepsThereAre(t *testing.T) {
	s := whole()
	for many := range 40 {
		l := path(slices.Repeat([]int{inOne + api.Sub}, many)...)
		holdPath(t, s, forms, l, 1 <= many && many <= 16)
		holdPath(t, s, forms, append(l, step(repeated+api.Sub)), many < 16)
		holdPath(t, s, forms, append(l, step(alone+api.Sub), byText(textToAny, "k")), many < 15)
		holdPath(t, s, few, path(append(slices.Repeat([]int{4}, many), 1)...), many < 16)
	}
	keyed := slices.Repeat([]api.Step{byText(textToAny+api.Sub, "k")}, 20)
	for many := range keyed {
		holdPath(t, s, maps, keyed[:many], 1 <= many && many <= 16)
	}
	holdPath(t, s, forms, path(slices.Repeat([]int{inOne + api.Sub}, 1<<16)...), false)
}

// P15.1: from a message that is not there leads no path.
func TestPathsFromNoMessage(t *testing.T) {
	s := whole()
	for _, m := range noMessages {
		for _, l := range [][]api.Step{nil, path(0), path(1), path(inOne + api.Sub), path(4), path(inOne+api.Sub, 1)} {
			holdPath(t, s, m, l, false)
		}
	}
}

// P15.1: of a schema that may not be there is no path, also where the field is there.
func TestPathsOfSchemasThatMayNotBe(t *testing.T) {
	for i, s := range wrongSchemas() {
		for m := -1; m < msgs; m++ {
			for _, l := range [][]api.Step{nil, path(1), path(alone + api.Sub), path(4), path(inOne+api.Sub, 1), {byNum(byKey, 1)}} {
				if f, ref, ok := typing.Path(s, m, l); f != (api.FieldDef{}) || ref != 0 || ok {
					t.Errorf("%d: %+v, %d, %t", i, f, ref, ok)
				}
			}
		}
	}
}

// R3, R5, P15.1: the schema stays as it was, and nothing is kept from call to call.
func TestPathsTellTheSameAgain(t *testing.T) {
	s := whole()
	l := []api.Step{step(alone + api.Sub), byNum(byKey, 3), step(repeated + api.Sub)}
	first, ref, ok := typing.Path(s, forms, l)
	typing.Path(read(t, small), 0, l)
	s.M[maps].F[0].Name = "changed"
	typing.Path(s, forms, l[:2])
	again, refAgain, okAgain := typing.Path(whole(), forms, l)
	if first != again || ref != refAgain || ok != okAgain {
		t.Errorf("%+v, %d, %t", again, refAgain, okAgain)
	}
	s.M[maps].F[0].Name = "k_int"
	if !reflect.DeepEqual(s, whole()) {
		t.Error("the schema became another one")
	}
}
