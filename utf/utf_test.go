package utf_test

import (
	"bytes"
	"fmt"
	"math"
	"slices"
	"testing"

	"truffle/utf"
)

// edges are first, second and further bytes of signs at both sides of where the chapter's words change, and some within.
var edges = []byte{0, 'a', 127, 128, 143, 144, 159, 160, 189, 191, 192, 193, 194, 223, 224, 225, 236, 237, 238, 239, 240, 241, 243, 244, 245, 255}

// longOf is how many bytes a sign has by its first one, 0 if none begins with it.
func longOf(first byte) int {
	switch {
	case first <= 127:
		return 1
	case 194 <= first && first <= 223:
		return 2
	case 224 <= first && first <= 239:
		return 3
	case 240 <= first && first <= 244:
		return 4
	}
	return 0
}

// second is from which byte on, and up to which one, the second one of a sign is.
func second(first byte) (byte, byte) {
	switch first {
	case 224:
		return 160, 191
	case 237:
		return 128, 159
	case 240:
		return 144, 191
	case 244:
		return 128, 143
	}
	return 128, 191
}

// sign is how many bytes the sign has with which b begins, by the chapter's words; 0 if b begins with none.
func sign(b []byte) int {
	if len(b) == 0 {
		return 0
	}
	long := longOf(b[0])
	if long == 0 || len(b) < long {
		return 0
	}
	for i, x := range b[1:long] {
		least, most := byte(128), byte(191)
		if i == 0 {
			least, most = second(b[0])
		}
		if x < least || x > most {
			return 0
		}
	}
	return long
}

// ends are the places at which signs end, one behind the other, from 0 on; 0 is one of them.
func ends(b []byte) []int {
	l, at := []int{0}, 0
	for long := sign(b); long > 0; long = sign(b[at:]) {
		at += long
		l = append(l, at)
	}
	return l
}

func wantFirst(b []byte) int {
	return slices.Max(ends(b))
}

func wantFine(b []byte, at, upto int) bool {
	return at >= 0 && at <= len(b) && upto >= at && upto <= len(b) && wantFirst(b[at:upto]) == upto-at
}

// places are those that may be of so many bytes, those just beside, and ones far away.
func places(long int) []int {
	l := []int{math.MinInt, -1 << 32, -2}
	for i := range long + 3 {
		l = append(l, i-1)
	}
	return append(l, 1<<32, math.MaxInt-1, math.MaxInt)
}

// holdFirst holds First of b, and Fine of all of b, against what P4.1 asks.
func holdFirst(t *testing.T, b []byte) {
	t.Helper()
	want := wantFirst(b)
	if n := utf.First(b); n != want {
		t.Fatalf("First(%v) is %d, not %d", b, n, want)
	}
	if fine := utf.Fine(b, 0, len(b)); fine != (want == len(b)) {
		t.Fatalf("Fine of %v is %v", b, fine)
	}
}

// P4.1: First and Fine, by examples: each edge that the chapter names, ordinary texts, and what is wrong.
func TestFirstExamples(t *testing.T) {
	for _, c := range []struct {
		name string
		b    []byte
		n    int
	}{
		{"no bytes", nil, 0},
		{"no bytes, but a list", []byte{}, 0},
		{"a text", []byte("plain text"), 10},
		{"signs of one to four bytes", []byte("a\u00e9\u2192\U0001f600"), 10},
		{"byte 0", []byte{0}, 1},
		{"byte 127", []byte{127}, 1},
		{"byte 128", []byte{128}, 0},
		{"byte 191", []byte{191}, 0},
		{"192, which would be of two", []byte{192, 128}, 0},
		{"193, which would be of two", []byte{193, 191}, 0},
		{"the first one of two", []byte{194, 128}, 2},
		{"the last one of two", []byte{223, 191}, 2},
		{"194 with a second byte too small", []byte{194, 127}, 0},
		{"223 with a second byte too great", []byte{223, 192}, 0},
		{"the first one of three", []byte{224, 160, 128}, 3},
		{"224 with 159", []byte{224, 159, 191}, 0},
		{"224 with 191", []byte{224, 191, 191}, 3},
		{"224 with 192", []byte{224, 192, 128}, 0},
		{"225 with 128", []byte{225, 128, 128}, 3},
		{"225 with 127", []byte{225, 127, 128}, 0},
		{"236 with 191", []byte{236, 191, 191}, 3},
		{"237 with 127", []byte{237, 127, 128}, 0},
		{"237 with 128", []byte{237, 128, 128}, 3},
		{"237 with 159", []byte{237, 159, 191}, 3},
		{"237 with 160", []byte{237, 160, 128}, 0},
		{"237 with 191", []byte{237, 191, 191}, 0},
		{"238 with 128", []byte{238, 128, 128}, 3},
		{"238 with 160", []byte{238, 160, 128}, 3},
		{"the last one of three", []byte{239, 191, 191}, 3},
		{"239 with 192", []byte{239, 192, 128}, 0},
		{"a third byte too small", []byte{225, 128, 127}, 0},
		{"a third byte too great", []byte{225, 128, 192}, 0},
		{"the first one of four", []byte{240, 144, 128, 128}, 4},
		{"240 with 143", []byte{240, 143, 191, 191}, 0},
		{"240 with 191", []byte{240, 191, 191, 191}, 4},
		{"240 with 192", []byte{240, 192, 128, 128}, 0},
		{"241 with 128", []byte{241, 128, 128, 128}, 4},
		{"243 with 191", []byte{243, 191, 191, 191}, 4},
		{"244 with 127", []byte{244, 127, 128, 128}, 0},
		{"244 with 128", []byte{244, 128, 128, 128}, 4},
		{"the last one of four", []byte{244, 143, 191, 191}, 4},
		{"244 with 144", []byte{244, 144, 128, 128}, 0},
		{"the third one of four too small", []byte{241, 128, 127, 128}, 0},
		{"the third one of four too great", []byte{241, 128, 192, 128}, 0},
		{"the fourth one too small", []byte{241, 128, 128, 127}, 0},
		{"the fourth one too great", []byte{241, 128, 128, 192}, 0},
		{"245", []byte{245, 128, 128, 128}, 0},
		{"five bytes", []byte{248, 136, 128, 128, 128}, 0},
		{"255", []byte{255}, 0},
		{"U+FFFD, as it is written", []byte{239, 191, 189}, 3},
		{"U+FFFD beside a byte that is none", []byte{239, 191, 189, 255}, 3},
		{"a byte that is none beside U+FFFD", []byte{255, 239, 191, 189}, 0},
		{"U+FFFD twice, the second one cut", []byte{239, 191, 189, 239, 191}, 3},
		{"U+FFFD with its first byte twice", []byte{239, 239, 191, 189}, 0},
		{"U+FFFD between others", []byte{'a', 239, 191, 189, 'b', 239, 191, 189, 128, 'c'}, 8},
		{"one that is cut, and others behind", []byte{'a', 195, 'b', 'c'}, 1},
		{"one that is cut by another one", []byte{226, 134, 195, 169}, 0},
		{"more than a sign", []byte{195, 169, 169}, 2},
		{"fine again behind what is none", []byte{'a', 'b', 255, 'c', 'd'}, 2},
	} {
		if n := utf.First(c.b); n != c.n {
			t.Errorf("%s: %d, not %d", c.name, n, c.n)
		}
		if fine := utf.Fine(c.b, 0, len(c.b)); fine != (c.n == len(c.b)) {
			t.Errorf("%s: fine is %v", c.name, fine)
		}
	}
}

// P4.1: Fine, by examples: a part of the bytes, places inside of a sign, and places that may not be.
func TestFineExamples(t *testing.T) {
	b := []byte("a\u00e9\u2192b\xff")
	for _, c := range []struct {
		name     string
		b        []byte
		at, upto int
		fine     bool
	}{
		{"all ahead of what is none", b, 0, 7, true},
		{"up to what is none", b, 0, 8, false},
		{"what is none", b, 7, 8, false},
		{"one sign", b, 1, 3, true},
		{"some signs", b, 1, 6, true},
		{"from inside of a sign of two", b, 2, 6, false},
		{"up to inside of a sign of two", b, 0, 2, false},
		{"from inside of a sign of three", b, 4, 6, false},
		{"from inside of a sign of three, further", b, 5, 7, false},
		{"up to inside of a sign of three", b, 3, 4, false},
		{"up to inside of a sign of three, further", b, 3, 5, false},
		{"nothing, at the beginning", b, 0, 0, true},
		{"nothing, inside of a sign", b, 2, 2, true},
		{"nothing, at the end", b, 8, 8, true},
		{"nothing of nothing", nil, 0, 0, true},
		{"at below 0", b, -1, 3, false},
		{"at and upto below 0", b, -1, -1, false},
		{"at above upto", b, 3, 1, false},
		{"at above upto by all", b, 8, 0, false},
		{"upto above all bytes", b, 0, 9, false},
		{"at and upto above all bytes", b, 9, 9, false},
		{"upto within the capacity", make([]byte, 1, 4), 0, 2, false},
		{"at and upto within the capacity", make([]byte, 1, 4), 2, 2, false},
		{"places of no bytes", nil, 0, 1, false},
		{"ahead of no bytes", nil, -1, 0, false},
		{"far away", b, math.MinInt, math.MaxInt, false},
		{"far away, the wrong way round", b, math.MaxInt, math.MinInt, false},
	} {
		if fine := utf.Fine(c.b, c.at, c.upto); fine != c.fine {
			t.Errorf("%s: %v", c.name, fine)
		}
	}
}

// P4.1: First and Fine of all first and second bytes, with what may stand behind, and what may not.
func TestAllFirstAndSecondBytes(t *testing.T) {
	tails := [][]byte{nil, {128}, {191}, {127}, {192}, {128, 128}, {191, 191}, {128, 127}, {128, 192}, {127, 128}, {192, 128}, {189, 'a', 239}}
	for first := range 256 {
		holdFirst(t, []byte{byte(first)})
		for second := range 256 {
			for _, tail := range tails {
				holdFirst(t, append([]byte{byte(first), byte(second)}, tail...))
			}
		}
	}
}

// P4.1: First and Fine of all that three edges, and four, can be put together to.
func TestAllEdges(t *testing.T) {
	for _, one := range edges {
		for _, two := range edges {
			for _, three := range edges {
				holdFirst(t, []byte{one, two, three})
				for _, four := range edges {
					holdFirst(t, []byte{one, two, three, four})
				}
			}
		}
	}
}

// mixed are texts of signs of all lengths, fine ones and others, also with U+FFFD as it is written.
func mixed() [][]byte {
	return [][]byte{
		nil,
		[]byte("plain"),
		[]byte("a\u00e9\u2192\U0001f600\uFFFDz"),
		[]byte("\U0010ffff\u07ff\ud7ff\ue000\x00\x7f\u0080\u0800\U00010000"),
		[]byte("\uFFFD\xff\uFFFD\xef\xbf\uFFFD"),
		[]byte("\xed\xa0\x80\xed\xb0\x80"),
		[]byte("ab\xc0\x80\u00e9\xf4\x90\x80\x80"),
	}
}

// P4.1: Fine at all places, also such as may not be.
func TestFineAtAllPlaces(t *testing.T) {
	for _, b := range mixed() {
		for _, at := range places(len(b)) {
			for _, upto := range places(len(b)) {
				if fine := utf.Fine(b, at, upto); fine != wantFine(b, at, upto) {
					t.Errorf("Fine(%v, %d, %d) is %v", b, at, upto, fine)
				}
			}
		}
	}
}

// P4.1: First is the greatest place up to which the bytes are fine.
func TestFirstIsTheMostThatIsFine(t *testing.T) {
	for _, b := range mixed() {
		most := 0
		for upto := range len(b) + 1 {
			if utf.Fine(b, 0, upto) {
				most = upto
			}
		}
		if n := utf.First(b); n != most {
			t.Errorf("First(%v) is %d, not %d", b, n, most)
		}
	}
}

// P4.1: a text that is long, fine, and cut.
func TestLongTexts(t *testing.T) {
	b := bytes.Repeat([]byte("a\u00e9\u2192\U0001f600\uFFFD"), 5000)
	if n := utf.First(b); n != len(b) {
		t.Errorf("%d of %d", n, len(b))
	}
	if cut := b[:len(b)-1]; utf.First(cut) != len(b)-3 || utf.Fine(cut, 0, len(cut)) {
		t.Errorf("cut: %d", utf.First(cut))
	}
}

// P4.2: Less, by examples.
func TestLessExamples(t *testing.T) {
	for _, c := range []struct {
		a, b string
		less bool
	}{
		{"", "", false},
		{"", "a", true},
		{"a", "", false},
		{"", "\x00", true},
		{"a", "a", false},
		{"a", "b", true},
		{"b", "a", false},
		{"a", "ab", true},
		{"ab", "a", false},
		{"ab", "b", true},
		{"b", "ab", false},
		{"abc", "abd", true},
		{"abd", "abc", false},
		{"a", "a\x00", true},
		{"a\x00", "a", false},
		{"B", "a", true},
		{"10", "9", true},
		{"z", "\u00e9", true},
		{"\u00e9", "z", false},
		{"\x7f", "\x80", true},
		{"\x80", "\x7f", false},
		{"\x80", "\xff", true},
		{"\xff", "\x80", false},
		{"\u00e9", "\xc3", false},
		{"\xc3", "\u00e9", true},
		// By signs U+FFFD would be the greater one, and what is none the same as it.
		{"\uFFFD", "\xff", true},
		{"\xff", "\uFFFD", false},
		{"\xfe", "\xff", true},
		{"\xff", "\xff", false},
		// By 16 bits each U+10000 would be the lesser one.
		{"\uffff", "\U00010000", true},
		{"\U00010000", "\uffff", false},
	} {
		if less := utf.Less(c.a, c.b); less != c.less {
			t.Errorf("Less(%q, %q) is %v", c.a, c.b, less)
		}
	}
}

// texts are all of at most three bytes out of some, fine or not.
func texts() []string {
	l := []string{""}
	for last := l; len(last[0]) < 3; {
		var next []string
		for _, s := range last {
			for _, x := range []byte{0, 'a', 127, 128, 195, 255} {
				next = append(next, s+string([]byte{x}))
			}
		}
		l, last = append(l, next...), next
	}
	return l
}

// wantLess is what P4.2 asks.
func wantLess(a, b string) bool {
	for i := 0; i < len(a) && i < len(b); i++ {
		if a[i] != b[i] {
			return a[i] < b[i]
		}
	}
	return len(a) < len(b)
}

// P4.2: Less of many texts. P4.3: of two that differ one is less, and of two that do not, none.
func TestLessOfManyTexts(t *testing.T) {
	for _, a := range texts() {
		for _, b := range texts() {
			less, more := utf.Less(a, b), utf.Less(b, a)
			if less != wantLess(a, b) {
				t.Fatalf("Less(%q, %q) is %v", a, b, less)
			}
			if a != b && less == more || a == b && (less || more) {
				t.Fatalf("%q and %q: %v, and %v", a, b, less, more)
			}
		}
	}
}

// P4.3: what is fine is so in two parts just where no sign is cut.
func TestTwoParts(t *testing.T) {
	for _, b := range mixed() {
		b = b[:wantFirst(b)]
		if !utf.Fine(b, 0, len(b)) {
			t.Errorf("%v is not fine", b)
		}
		whole := ends(b)
		for mid := range len(b) + 1 {
			ahead, behind := utf.Fine(b, 0, mid), utf.Fine(b, mid, len(b))
			if want := slices.Contains(whole, mid); ahead != want || behind != want {
				t.Errorf("%v cut at %d: %v, and %v", b, mid, ahead, behind)
			}
		}
	}
}

// P4.3: what is fine is so together.
func TestTogether(t *testing.T) {
	for _, a := range mixed() {
		for _, b := range mixed() {
			if !utf.Fine(a, 0, len(a)) || !utf.Fine(b, 0, len(b)) {
				continue
			}
			if both := slices.Concat(a, b); !utf.Fine(both, 0, len(both)) {
				t.Errorf("%v and %v together are not fine", a, b)
			}
		}
	}
}

// R3: what is handed in stays.
func TestBytesStay(t *testing.T) {
	for _, b := range mixed() {
		was := slices.Clone(b)
		utf.First(b)
		utf.Fine(b, 0, len(b))
		if !bytes.Equal(b, was) {
			t.Errorf("%v is %v", was, b)
		}
	}
}

func ExampleFine() {
	fmt.Println(utf.Fine([]byte{195, 169}, 0, 2))
	fmt.Println(utf.Fine([]byte{195, 169}, 0, 1))
	// Output:
	// true
	// false
}

func ExampleFirst() {
	fmt.Println(utf.First([]byte{'a', 195, 169, 195}))
	// Output: 3
}

func ExampleLess() {
	fmt.Println(utf.Less("z", "\u00e9"))
	// Output: true
}
