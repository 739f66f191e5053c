package tests

import (
	"math"
	"slices"
	"strings"
	"testing"

	"loop.example/copiedtexts/impl"
)

var (
	_ func(int) int                           = impl.SignOf
	_ func(string) (string, []int)            = impl.Alike
	_ func(string) bool                       = impl.IsAlike
	_ func(string, string) bool               = impl.SameAlike
	_ func(string, int, int) (int, int, bool) = impl.SpanBack
	_ func(string) (int, int, int)            = impl.SignCounts
)

// namedTexts returns the texts that the document and the issue name: no text, gaps alone, gaps at both ends and of many bytes, and bytes from 128 on.
func namedTexts() []string {
	return []string{
		"", " ", ",", "\x00", " \t\n,.;!?-_", "\x7f",
		"a", "A", "7", "\x80", "\xff", "@", "[", "`", "{", "/", ":",
		" a", "a ", " a ", "  ,.a.,  ", "a  b", "a \t\n,.; b", "\x00A\x00\x00B\x00",
		" The Sea,  the sea!", "the sea the sea", "A b, C", "the  sea", "The sea",
		"\xc3\x84pfel und \xc3\x9cbel", "\x80 \xff", " \x80\x81,\xfe\xff ", "a\xa0b", "\xe2\x80\x94",
		"...one...TWO...3...", strings.Repeat(" ", 50) + "x" + strings.Repeat("-", 50) + "Y" + strings.Repeat("\n", 50),
		allBytes(), allBytes() + allBytes(),
	}
}

func shortTexts() []string {
	return append(namedTexts(), allTexts("aB7 ,\xc3", 5)...)
}

func manyTexts() []string {
	return append(shortTexts(), longTexts()...)
}

func alikeText(s string) string {
	text, _ := impl.Alike(s)
	return text
}

func loweredSign(b byte) byte {
	if isGap(b) {
		return ' '
	}
	if b < 128 {
		return strings.ToLower(string(rune(b)))[0]
	}
	return b
}

// alikeByPlaces makes a text alike place by place: each place is looked at by itself, with what stands ahead of it and behind it.
func alikeByPlaces(s string) (string, []int) {
	first, last := len(s), -1
	for i := 0; i < len(s); i++ {
		if !isGap(s[i]) {
			first = min(first, i)
			last = i
		}
	}
	var text []byte
	var places []int
	for i := first; i <= last; i++ {
		if isGap(s[i]) && isGap(s[i-1]) {
			continue
		}
		text = append(text, loweredSign(s[i]))
		places = append(places, i)
	}
	return string(text), places
}

func isAlikeByRules(s string) bool {
	if strings.HasPrefix(s, " ") || strings.HasSuffix(s, " ") || strings.Contains(s, "  ") {
		return false
	}
	for i := 0; i < len(s); i++ {
		if s[i] != ' ' && isGap(s[i]) || s[i] >= 'A' && s[i] <= 'Z' {
			return false
		}
	}
	return true
}

func checkAlikeAgain(t *testing.T, s string) {
	t.Helper()
	text := alikeText(s)
	again, places := impl.Alike(text)
	if again != text || len(places) != len(text) {
		t.Fatalf("%q made alike again: %q, %v", text, again, places)
	}
	for i, at := range places {
		if at != i {
			t.Fatalf("%q: sign %d comes from %d", text, i, at)
		}
	}
	if !impl.IsAlike(text) {
		t.Fatalf("%q is not told to be alike", text)
	}
}

func checkOneAlike(t *testing.T, texts []string) {
	t.Helper()
	var alike []string
	for _, s := range texts {
		if impl.IsAlike(s) {
			alike = append(alike, s)
		}
	}
	if len(alike) < 10 {
		t.Fatalf("too few texts are alike: %q", alike)
	}
	for _, a := range alike {
		for _, b := range alike {
			if impl.SameAlike(a, b) != (a == b) {
				t.Fatalf("%q and %q, both alike", a, b)
			}
		}
	}
}

func TestP1MadeAlikeIsAlike(t *testing.T) {
	for _, s := range shortTexts() {
		checkAlikeAgain(t, s)
	}
	checkOneAlike(t, append(namedTexts(), allTexts("aB0 \xc3", 4)...))
}

func TestP223MadeAlikeIsAlikeUpTo1000(t *testing.T) {
	texts := longTexts()
	for _, s := range longTexts() {
		checkAlikeAgain(t, s)
		texts = append(texts, alikeText(s))
	}
	checkOneAlike(t, texts)
}

func checkOneByOne(t *testing.T, a string, gap string, b string) {
	t.Helper()
	textA, placesA := impl.Alike(a)
	textB, placesB := impl.Alike(b)
	want := textA + textB
	wantPlaces := slices.Clone(placesA)
	if textA != "" && textB != "" {
		want = textA + " " + textB
		wantPlaces = append(wantPlaces, placesA[len(placesA)-1]+1)
	}
	for _, at := range placesB {
		wantPlaces = append(wantPlaces, len(a)+len(gap)+at)
	}
	got, gotPlaces := impl.Alike(a + gap + b)
	if got != want || !slices.Equal(gotPlaces, wantPlaces) {
		t.Fatalf("%q, %q, %q: %q, %v, not %q, %v", a, gap, b, got, gotPlaces, want, wantPlaces)
	}
}

func TestP2GapBetween(t *testing.T) {
	texts := append(namedTexts(), allTexts("aB ,\x80", 3)...)
	for _, a := range texts {
		for _, b := range texts {
			checkOneByOne(t, a, " ", b)
		}
	}
	for _, gap := range []string{",", "\x00", "\x7f", "  ", " \t\n,.;!?", strings.Repeat("-", 100), gapBytes()} {
		for _, a := range namedTexts() {
			for _, b := range namedTexts() {
				checkOneByOne(t, a, gap, b)
			}
		}
	}
}

func TestP224GapBetweenUpTo1000(t *testing.T) {
	texts := append(longTexts(), "", " ", "a", " Z\xff ")
	for i, a := range texts {
		for j, b := range texts {
			gap := strings.Repeat(gapBytes()[(i+j)%60:], 1+j%8)
			checkOneByOne(t, a, gap, b)
		}
	}
}

func TestP84SignOf(t *testing.T) {
	for b := 0; b < 256; b++ {
		want := int(loweredSign(byte(b)))
		if got := impl.SignOf(b); got != want {
			t.Fatalf("%d becomes %d, not %d", b, got, want)
		}
		if got := impl.SignOf(want); got != want {
			t.Fatalf("%d, which %d became, becomes %d", want, b, got)
		}
	}
	great := "ABCDEFGHIJKLMNOPQRSTUVWXYZ"
	small := "abcdefghijklmnopqrstuvwxyz"
	for i := range great {
		if got := impl.SignOf(int(great[i])); got != int(small[i]) {
			t.Fatalf("%c becomes %d", great[i], got)
		}
	}
}

func TestP84SignOfNoBytes(t *testing.T) {
	for _, b := range []int{-1, -2, -32, -128, -256, 256, 257, 256 + 'a', 1 << 32, math.MinInt, math.MaxInt} {
		if got := impl.SignOf(b); got != -1 {
			t.Fatalf("%d becomes %d", b, got)
		}
	}
}

func TestP85SignsAndPlaces(t *testing.T) {
	for _, s := range manyTexts() {
		text, places := impl.Alike(s)
		if len(text) != len(places) {
			t.Fatalf("%q: %d signs, %d places", s, len(text), len(places))
		}
		for i, at := range places {
			if at < 0 || at >= len(s) || i > 0 && at <= places[i-1] {
				t.Fatalf("%q: places %v", s, places)
			}
			if impl.SignOf(int(s[at])) != int(text[i]) {
				t.Fatalf("%q: sign %d is %q, at %d", s, i, text[i], at)
			}
		}
	}
}

func TestP85AlikeIsWhatEachPlaceTells(t *testing.T) {
	for _, s := range manyTexts() {
		text, places := impl.Alike(s)
		wantText, wantPlaces := alikeByPlaces(s)
		if text != wantText || !slices.Equal(places, wantPlaces) {
			t.Fatalf("%q: %q, %v, not %q, %v", s, text, places, wantText, wantPlaces)
		}
	}
}

func TestP85AlikeOfSomeTexts(t *testing.T) {
	cases := []struct {
		s      string
		text   string
		places []int
	}{
		{"", "", nil},
		{" ,.\n\x00", "", nil},
		{"..A..", "a", []int{2}},
		{" The Sea,  the sea!", "the sea the sea", []int{1, 2, 3, 4, 5, 6, 7, 8, 11, 12, 13, 14, 15, 16, 17}},
		{"\xc3\x84 \t\xff", "\xc3\x84 \xff", []int{0, 1, 2, 4}},
		{"-7--\x80-", "7 \x80", []int{1, 2, 4}},
	}
	for _, c := range cases {
		text, places := impl.Alike(c.s)
		if text != c.text || !slices.Equal(places, c.places) {
			t.Fatalf("%q: %q, %v", c.s, text, places)
		}
	}
}

func TestP86IsAlike(t *testing.T) {
	for _, s := range append(manyTexts(), allTexts("ab \x80", 6)...) {
		if got := impl.IsAlike(s); got != isAlikeByRules(s) {
			t.Fatalf("%q is told to be alike: %v", s, got)
		}
	}
	for b := 0; b < 256; b++ {
		s := string([]byte{'x', byte(b), 'x'})
		if got := impl.IsAlike(s); got != isAlikeByRules(s) {
			t.Fatalf("%q is told to be alike: %v", s, got)
		}
	}
}

// otherHeights returns a text with small letters in place of great ones, and great ones in place of small ones.
func otherHeights(s string) string {
	list := []byte(s)
	for i, b := range list {
		if b < 128 && isPlain(b) && (b < '0' || b > '9') {
			list[i] = b ^ 32
		}
	}
	return string(list)
}

// otherGaps returns a text with gaps ahead of it and behind it, and other and more bytes in each gap.
func otherGaps(s string) string {
	gaps := gapBytes()
	list := []byte("?!")
	for i := 0; i < len(s); i++ {
		if isGap(s[i]) {
			list = append(list, gaps[i%len(gaps)], gaps[(i+7)%len(gaps)])
		} else {
			list = append(list, s[i])
		}
	}
	return string(append(list, "\n\n"...))
}

func TestP87WhatDoesNotMatter(t *testing.T) {
	for _, s := range manyTexts() {
		for _, other := range []string{s, alikeText(s), otherHeights(s), otherGaps(s), otherGaps(otherHeights(s)), " " + s + "."} {
			if !impl.SameAlike(s, other) || !impl.SameAlike(other, s) {
				t.Fatalf("%q and %q are not the same", s, other)
			}
		}
	}
}

func TestP87WhatMatters(t *testing.T) {
	texts := append(namedTexts(), allTexts("aA, \x80", 3)...)
	for _, a := range texts {
		for _, b := range texts {
			if impl.SameAlike(a, b) != (alikeText(a) == alikeText(b)) {
				t.Fatalf("%q and %q", a, b)
			}
		}
	}
	for _, pair := range [][2]string{{"ab", "a b"}, {"a", ""}, {"a", "a a"}, {"a1", "a2"}, {"\xc3\x84", "\xc3\xa4"}, {"\xe1", "a"}} {
		if impl.SameAlike(pair[0], pair[1]) || impl.SameAlike(pair[1], pair[0]) {
			t.Fatalf("%q are the same", pair)
		}
	}
}

func checkSpan(t *testing.T, s string, text string, places []int, from int, to int) {
	t.Helper()
	a, b, ok := impl.SpanBack(s, from, to)
	if !ok || a != places[from] || b != places[to-1]+1 {
		t.Fatalf("%q from %d to %d: %d, %d, %v", s, from, to, a, b, ok)
	}
	if text[from] == ' ' || text[to-1] == ' ' {
		return
	}
	if got := alikeText(s[a:b]); got != text[from:to] {
		t.Fatalf("%q from %d to %d: %q, not %q", s, from, to, got, text[from:to])
	}
}

func TestP88SpanBack(t *testing.T) {
	for _, s := range append(namedTexts(), allTexts("aB ,\xc3", 5)...) {
		text, places := alikeByPlaces(s)
		for from := range places {
			for to := from + 1; to <= len(places); to++ {
				checkSpan(t, s, text, places, from, to)
			}
		}
	}
	for _, s := range longTexts() {
		text, places := alikeByPlaces(s)
		for from := 0; from < len(places); from += 37 {
			for to := from + 1; to <= len(places); to += 101 {
				checkSpan(t, s, text, places, from, to)
			}
			checkSpan(t, s, text, places, from, len(places))
		}
	}
}

func TestP88SpanBackAtGaps(t *testing.T) {
	cases := []struct {
		s    string
		from int
		to   int
		a    int
		b    int
	}{
		{"A b, C", 2, 5, 2, 6},
		{"A b, C", 3, 5, 3, 6},
		{"A b, C", 3, 4, 3, 4},
		{"A b, C", 2, 4, 2, 4},
		{"..a,,,,b..", 0, 1, 2, 3},
		{"..a,,,,b..", 0, 2, 2, 4},
		{"..a,,,,b..", 1, 2, 3, 4},
		{"..a,,,,b..", 1, 3, 3, 8},
		{"..a,,,,b..", 0, 3, 2, 8},
		{"..a,,,,b..", 2, 3, 7, 8},
		{" \xc3\x84 ", 1, 2, 2, 3},
	}
	for _, c := range cases {
		if a, b, ok := impl.SpanBack(c.s, c.from, c.to); !ok || a != c.a || b != c.b {
			t.Fatalf("%q from %d to %d: %d, %d, %v", c.s, c.from, c.to, a, b, ok)
		}
	}
}

func TestP88SpanBackOfNoSpan(t *testing.T) {
	cases := []struct {
		s    string
		from int
		to   int
	}{
		{"", 0, 0}, {"", 0, 1}, {"", -1, 0}, {"", -1, 1}, {" ,.", 0, 0}, {" ,.", 0, 1}, {" ,.", 0, 3}, {" ,.", 1, 2},
		{"A b, C", 0, 0}, {"A b, C", 3, 3}, {"A b, C", 5, 5}, {"A b, C", 4, 2}, {"A b, C", 5, 0},
		{"A b, C", -1, 2}, {"A b, C", -1, 5}, {"A b, C", -3, -1}, {"A b, C", 2, -1},
		{"A b, C", 0, 6}, {"A b, C", 4, 6}, {"A b, C", 5, 6}, {"A b, C", 6, 7},
		{"A b, C", math.MinInt, math.MaxInt}, {"A b, C", math.MaxInt, math.MinInt}, {"A b, C", 0, math.MaxInt},
		{"A b, C", math.MaxInt, math.MaxInt}, {"A b, C", math.MinInt, 3}, {"A b, C", 0, math.MinInt},
	}
	for _, c := range cases {
		if a, b, ok := impl.SpanBack(c.s, c.from, c.to); ok || a != 0 || b != 0 {
			t.Fatalf("%q from %d to %d: %d, %d, %v", c.s, c.from, c.to, a, b, ok)
		}
	}
}

func TestP89AllSignsAreCountedOnce(t *testing.T) {
	for _, s := range manyTexts() {
		text, _ := alikeByPlaces(s)
		wantPlain, wantHigh, wantSpaces := 0, 0, strings.Count(text, " ")
		for i := 0; i < len(s); i++ {
			if isPlain(s[i]) {
				wantPlain++
			}
			if s[i] >= 128 {
				wantHigh++
			}
		}
		plain, high, spaces := impl.SignCounts(s)
		if plain != wantPlain || high != wantHigh || spaces != wantSpaces {
			t.Fatalf("%q: %d, %d, %d, not %d, %d, %d", s, plain, high, spaces, wantPlain, wantHigh, wantSpaces)
		}
		if plain+high+spaces != len(alikeText(s)) {
			t.Fatalf("%q: %d, %d and %d are not all signs", s, plain, high, spaces)
		}
	}
}

func TestAlikeOwnsItsMemory(t *testing.T) {
	s := " The Sea,  the \xc3\x84 sea!"
	kept := strings.Clone(s)
	_, first := impl.Alike(s)
	_, second := impl.Alike(s)
	want := slices.Clone(second)
	first = append(first[:1], 90, 91, 92)
	first = first[:cap(first)]
	for i := range first {
		first[i] = -7
	}
	_, third := impl.Alike(s)
	if !slices.Equal(second, want) || !slices.Equal(third, want) {
		t.Fatal(second, third)
	}
	if s != kept {
		t.Fatalf("the text became %q", s)
	}
}

func TestSignsWriteToNoArgument(t *testing.T) {
	for _, s := range namedTexts() {
		kept := strings.Clone(s)
		impl.Alike(s)
		impl.IsAlike(s)
		impl.SameAlike(s, s)
		impl.SpanBack(s, 0, 1)
		impl.SignCounts(s)
		if s != kept {
			t.Fatalf("%q became %q", kept, s)
		}
	}
}
